/- What the functions of package num that write a length do: putVarint, PutLen; and slices.Clone at []byte. -/
import Derived.Test.YtdmgjeipkpbojaaDoorProg
import Derived.Test.YtdmgjeipkpbojaaDoorWords
import Derived.Test.YtdmgjeipkpbojaaDoorNumMath
import Derived.Test.YtdmgjeipkpbojaaDoorNumBits
import Derived.WalkKit
import Derived.WalkSpells
import Derived.Lib.Hide
namespace Go.Proofs.YtdmgjeipkpbojaaDoor
set_option maxRecDepth 20000
open Go.RowKit
namespace Nc
theorem info_u8 : (Tryd.prog.info? 5).map (fun i => (i.zero, i.size, i.bytes)) = some (some (.int .u8 0), 1, 1) := by kernel_rfl

/-- What holds at the head of putVarint's rounds. -/
def PvRel (w : World) (all : List Int) (v : Value) (u : Int) (f : Nat) (xs : List Int) (wr : World) : Prop :=
  u < 128 ^ (f + 1) ∧ xs ++ Nm.vdF f u = all ∧ Wd.Dst wr w.heap.size 5 .u8 v xs ∧ Below w.heap.size w wr

set_option maxHeartbeats 400000 in
theorem putVarint_own (A : Option Addr) (c : Nat) (bs : List Int) (u : Int) (w : World) (hb : Wd.Rd w w.heap.size .u8 A bs) (hc : bs.length ≤ c) (hm : bs.length ≤ 10000000) (h0 : 0 ≤ u) (h1 : u ≤ 18446744073709551615) :
    Calls Tryd.prog 67 #[.slice A bs.length c, .int .u64 u] w fun e w' => ∃ v, e = .returned v ∧ w'.ownsRow w.heap.size 5 1 v (bs ++ Nm.vd u).length ((bs ++ Nm.vd u).map (Value.int .u8)) ∧ Below w.heap.size w w' := by
  obtain ⟨i0, hi, hz0, hz1, hz2⟩ := info_parts info_u8
  go_enter Tryd.func67, Tryd.ntmps67
  go_wp2
  go_loopw [0, 1] (fun v i wr => ∃ (u' : Int) (f : Nat) (xs : List Int), i = .int .u64 u' ∧ 0 ≤ u' ∧ u' ≤ 18446744073709551615 ∧ PvRel w (bs ++ Nm.vd u) v u' f xs wr) (fun _ i _ => (intOf i).toNat)
  case atStart => exact ⟨u, 9, bs, rfl, h0, h1, by rw [Nm.pow10]; omega, rfl, .inr ⟨A, rfl, hb⟩, Below.refl _ _⟩
  case round =>
    obtain ⟨u', f, xs, rfl, hu0, hu1, hR⟩ := hrel
    have hR1 := hR.1
    have hR2 := Lib.hid hR.2.1
    have hD := hR.2.2.1
    have hBl := hR.2.2.2
    have hsz := hBl.size
    have hxl : xs.length ≤ 10000010 := by
      have := congrArg List.length hR.2.1
      have h2 := Nm.vd_len u
      simp only [List.length_append] at this
      omega
    clear hR
    by_cases hlt : u' < 128
    · go_wp2_with (at_builtin; refine Wd.wpList_app_dst _ rfl (.tmp 22) (.tmp 25) 29 rfl w.heap.size 5 i0 _ .u8 1 Tryd.underlying29 hi hz0 hz1 hz2 rfl _ xs rfl (hD.alloc hsz _) (wr.heap.size + 1) _ 1 1 [u'] rfl rfl (Wd.Rd.lit wr .u8 [u'] _ _ rfl) (by simp) (by simp; omega) (by simp [maxLen]; omega) (by simp; omega) ?_; intro v' w1 hown hbel)
      go_ret
      refine ⟨v', rfl, ?_, ((hBl.alloc hsz _).trans hbel)⟩
      rw [← hR2.out, Nm.vdF_lo _ _ hlt]
      exact hown
    · have hlt' : 128 ≤ u' := by omega
      go_wp2_with (at_builtin; refine Wd.wpList_app_dst _ rfl (.tmp 13) (.tmp 18) 29 rfl w.heap.size 5 i0 _ .u8 1 Tryd.underlying29 hi hz0 hz1 hz2 rfl _ xs rfl (hD.alloc hsz _) (wr.heap.size + 1) _ 1 1 [u' % 128 + 128] rfl rfl (Wd.Rd.lit wr .u8 [u' % 128 + 128] _ _ rfl) (by simp) (by simp; omega) (by simp [maxLen]; omega) (by simp; omega) ?_; intro v' w1 hown hbel)
      go_roundw
      case rel =>
        cases f with
        | zero => simp at hR1; omega
        | succ f =>
          refine ⟨u' / 128, f, xs ++ [u' % 128 + 128], rfl, by omega, by omega, ?_, ?_, .inl hown, (hBl.alloc hsz _).trans hbel⟩
          · rw [Int.pow_succ] at hR1; omega
          · rw [← hR2.out, Nm.vdF_hi _ _ (by omega)]; simp
      case measure => simp [intOf]; omega
theorem putVarint_any (A : Option Addr) (n c : Nat) (bs : List Int) (u : Int) (w : World) (hb : Wd.Sl w .u8 A n c bs) (hm : n ≤ 10000000) (h0 : 0 ≤ u) (h1 : u ≤ 18446744073709551615) :
    Calls Tryd.prog 67 #[.slice A n c, .int .u64 u] w (Wd.Out w .u8 (bs ++ Nm.vd u)) := by
  obtain ⟨rfl, hc, _, _, hr⟩ := hb
  exact (putVarint_own A c bs u w hr hc hm h0 h1).mono fun _ _ ⟨_, he, ho, hb⟩ => he ▸ Wd.Out.of_own ho hb

theorem clone_any (A : Option Addr) (m c : Nat) (bs : List Int) (w : World) (hb : Wd.Sl w .u8 A m c bs) (hm : m ≤ 10000000) :
    Calls Tryd.prog 54 #[.slice A m c] w (Wd.Out w .u8 bs) := by
  obtain ⟨i0, hi, hz0, hz1, hz2⟩ := info_parts info_u8
  obtain ⟨rfl, hc, hx, hA, hr⟩ := hb
  rcases A with _ | ad
  · obtain rfl := hA rfl
    obtain rfl := hr.none_
    have hnil : ∀ (w : World) (n c : Nat), (binOp .eql 29 (.slice none n c) (.slice none 0 0)).run Tryd.prog w = .ok (.bool true) w := fun _ _ _ => by kernel_rfl
    go_enter Tryd.func54, Tryd.ntmps54
    go_wp2
    go_ret
    exact ⟨none, 0, 0, rfl, Wd.Sl.none_ _ _, Below.refl _ _⟩
  · have hnil : ∀ (w : World) (n c : Nat) , (binOp .eql 29 (.slice (some ad) n c) (.slice none 0 0)).run Tryd.prog w = .ok (.bool false) w := fun _ _ _ => by kernel_rfl
    go_enter Tryd.func54, Tryd.ntmps54
    go_wp2_with (at_builtin; refine Wd.wpList_app _ rfl (.tmp 5) (.tmp 6) 29 rfl w.heap.size 5 i0 _ .u8 1 Tryd.underlying29 hi hz0 hz1 hz2 rfl (.slice (some ⟨w.heap.size, 0, none⟩) 0 0) [] rfl (World.ownsRow_lit w #[] 0 (Nat.le_refl _) (by simp [maxLen]) rfl) w.heap.size _ _ c bs rfl rfl (by simp) (hr.below ((Below.refl _ _).alloc (Nat.le_refl _) _)) (by simp; omega) (by simp [maxLen]; omega) (by simp) ?_; intro v' w1 hown hbel)
    go_ret
    refine Wd.Out.of_own (by simpa using hown) (((Below.refl _ _).alloc (Nat.le_refl _) _).grown hbel (by simp) (by simp [Value.ownBlock]))

theorem putLen_any (A : Option Addr) (m c : Nat) (bs : List Int) (n : Int) (w : World) (hb : Wd.Sl w .u8 A m c bs) (hm : m ≤ 10000000) (h0 : -9223372036854775808 ≤ n) (h1 : n ≤ 9223372036854775807) :
    Calls Tryd.prog 53 #[.slice A m c, .int .i64 n] w (Wd.Out w .u8 (bs ++ if n < 0 then [] else Nm.vd n)) := by
  by_cases hn : n < 0
  · rw [if_pos hn, List.append_nil]
    go_enter Tryd.func53, Tryd.ntmps53
    go_wp2_with fail
    refine (clone_any A m c bs w hb hm).mono ?_
    rintro e w' ⟨A', m', c', rfl, hO⟩
    go_wp2_with fail
    go_ret
    exact ⟨A', m', c', rfl, hO⟩
  · rw [if_neg hn]
    have hn' : 0 ≤ n := by omega
    go_enter Tryd.func53, Tryd.ntmps53
    go_wp2_with fail
    refine (putVarint_any A m c bs n w hb hm (by omega) (by omega)).mono ?_
    rintro e w' ⟨A', m', c', rfl, hO⟩
    go_wp2_with fail
    go_ret
    exact ⟨A', m', c', rfl, hO⟩
/-- PutLen behind no bytes, with whose memory it is. -/
theorem putLen0_own (n : Int) (w : World) (h0 : 0 ≤ n) (h1 : n ≤ 9223372036854775807) :
    Calls Tryd.prog 53 #[.slice none 0 0, .int .i64 n] w fun e w' => ∃ v, e = .returned v ∧ w'.ownsRow w.heap.size 5 1 v (Nm.vd n).length ((Nm.vd n).map (Value.int .u8)) ∧ Below w.heap.size w w' := by
  have hc := putVarint_own none 0 [] n w Wd.Rd.nil (by simp) (by simp) h0 (by omega)
  rw [List.nil_append] at hc
  have Hc := Lib.hid hc
  clear hc
  go_enter Tryd.func53, Tryd.ntmps53
  go_wp2_with fail
  refine Hc.out.mono ?_
  rintro e w1 ⟨v, rfl, hO⟩
  go_wp2_with fail
  go_ret
  exact ⟨v, rfl, hO⟩
end Nc
end Go.Proofs.YtdmgjeipkpbojaaDoor
