/- Package bitset: All: an iterator over words and their bits; math/bits' TrailingZeros64. -/
import Derived.Laws.Bits64b
import Derived.Test.YtgmjafammdkgfaaDoorBwBits
import Derived.Test.YtgmjafammdkgfaaDoorBwBase
import Derived.Test.YtgmjafammdkgfaaDoorBsList
namespace Go.Proofs.YtgmjafammdkgfaaDoor
set_option maxRecDepth 20000
open Go.RowKit Go.Shelf
attribute [local go_sem] Oper.semAt_some
namespace Bw
open Bs Bx Bi
set_option maxHeartbeats 2000000 in
theorem tz_any (x : Nat) (h0 : x ≠ 0) (hx : x < 18446744073709551616) (w : World) (hT : Tab w) :
    Calls Tryd.prog 38 #[.int .u64 (x : Int)] w fun e w' => e = .returned (.int .i64 (Lib.ctz 64 x : Int)) ∧ w' = w := by
  obtain ⟨hlow, hk⟩ := Lib.lowest_bit 64 x h0 hx
  obtain ⟨hi, htab⟩ := Lib.deBruijn64_at _ hk
  have hl : x &&& (18446744073709551616 - x) = 2 ^ Lib.ctz 64 x := hlow
  have hcell := hT _ hi
  rw [htab] at hcell
  obtain ⟨k, hk'⟩ : ∃ k, k = Lib.ctz 64 x := ⟨_, rfl⟩
  rw [← hk'] at hk hcell hi hl ⊢
  obtain ⟨a, ha⟩ : ∃ a, a = 2 ^ k := ⟨_, rfl⟩
  rw [← ha] at hcell hi hl
  obtain ⟨i, hi'⟩ : ∃ i, i = a * 285870213051353865 % 18446744073709551616 / 288230376151711744 := ⟨_, rfl⟩
  rw [← hi'] at hi hcell
  have key : IntKind.u64.wrap (bits BinOp.and IntKind.u64 (x : Int) (IntKind.u64.wrap (-(x : Int))) * 285870213051353865) / 288230376151711744 = (i : Int) := by
    have e1 : IntKind.u64.wrap (-(x : Int)) = ((18446744073709551616 - x : Nat) : Int) := by rw [IntKind.wrap_u64]; omega
    rw [e1, bits_and_u64_nat x _ hx (by omega), hl, IntKind.wrap_u64, hi', Int.natCast_ediv, Int.natCast_emod, Int.natCast_mul]
    rfl
  have hx0 : ((x : Int) == 0) = false := by simpa using h0
  clear hk' hi' hlow htab hT h0 ha hl
  go_enter Tryd.func38, Tryd.ntmps38
  go_wp2_with (simp only [key])
  go_ret
  exact ⟨rfl, rfl⟩
theorem tab_keep {w W W' : World} {n₀ : Nat} (hT : Tab w) (hn : w.heap.size ≤ n₀) (h : Below n₀ W W') (hW : Tab W) : Tab W' := fun j hj => (h.cell (Nat.lt_of_lt_of_le (World.block_lt_of_cell? w _ (hT j hj)) hn)).trans (hW j hj)
/-- Ahead of the word a (of which x is left) the numbers pre have come. -/
def AtW (L : List Nat) (a x : Nat) (pre : List Int) : Prop := a < L.length ∧ x < 18446744073709551616 ∧ pre ++ wl a x = lstW (L.take (a + 1))
theorem atW_in {L : List Nat} {a : Nat} {pre : List Int} (hL : Wo L) (h : a < L.length) (e : pre = lstW (L.take a)) : AtW L a (L.getD a 0) pre := ⟨h, hL.2 a, by rw [e, lst_next L a h]⟩
theorem atW_out {L : List Nat} {a : Nat} {pre : List Int} (h : AtW L a 0 pre) : pre = lstW (L.take (a + 1)) := by
  have := h.2.2
  rwa [wl_zero, List.append_nil] at this
theorem atW_next {L : List Nat} {a x : Nat} {pre : List Int} (h : AtW L a x pre) (h0 : x ≠ 0) : AtW L a (x &&& (x - 1)) (pre ++ [(a : Int) * 64 + (Lib.ctz 64 x : Int)]) := by
  refine ⟨h.1, Nat.lt_trans (low_lt x h0) h.2.1, ?_⟩
  rw [← h.2.2, wl_next a x h0 h.2.1, List.append_assoc, List.singleton_append]
theorem atW_pre {L : List Nat} {a x : Nat} {pre : List Int} (h : AtW L a x pre) : pre <+: lstW L :=
  (List.prefix_append pre (wl a x)).trans (h.2.2 ▸ lst_pre L (a + 1) h.1)
theorem atW_lt {L : List Nat} {a x : Nat} {pre : List Int} (hL : Wo L) (h : AtW L a x pre) (h0 : x ≠ 0) : pre.length < 65536 := by
  have h1 := congrArg List.length h.2.2
  rw [wl_next a x h0 h.2.1, List.length_append, List.length_cons] at h1
  have h2 := lst_le (L.take (a + 1))
  have h3 := hL.1
  have h4 := h.1
  simp only [List.length_take] at h2
  omega
set_option maxRecDepth 100000 in
set_option maxHeartbeats 2000000 in
theorem each_in (n : Nat) (hn : 1 ≤ n) (l Bl n₀ : Nat) (A : Option Addr) (m c : Nat) (L : List Nat) (w0 : World) (hT0 : Tab w0) (hw0 : w0.heap.size ≤ n₀) (hL : Wo L) (J Jx : List Int → World → Prop) (W : World)
    (hY : ∀ pre x W, J pre W → pre.length < 65536 → YieldAt Fence.wide (n - 1) Tryd.prog l #[.int .i64 x] W fun e W' =>
      (e = .returned (.bool true) ∧ J (pre ++ [x]) W' ∧ Keeps n₀ Bl W W') ∨ (e = .returned (.bool false) ∧ Jx (pre ++ [x]) W'))
    (hBx : Wd.Bx W Bl 27 #[.slice A m c]) (hTW : Tab W) (hS : Wd.Sl w0 .u64 A m c (nat L)) (hbel : Below n₀ w0 W) (h0 : J [] W) :
    CallsIn Fence.wide n Tryd.prog 37 #[.func (.yield l) #[] #[], .pointer (some ⟨Bl, 0, none⟩)] W fun e W' => (∃ v, e = .returned v) ∧
      ((∃ ys, ys = lstW L ∧ J ys W') ∨ (∃ pre, pre <+: lstW L ∧ Jx pre W')) := by
  have cB := hBx.cell 0
  have cB' : W.cell? ⟨Bl, 0, none⟩ = some (.slice A m c) := cB
  have hcap := hS.cap
  have hmx := hS.max
  unfold maxLen at hmx
  have hm : m = L.length := by rw [hS.len, nat_len]
  have hm1 : m ≤ 1024 := by rw [hm]; exact hL.1
  have hrd := hS.rd
  have Hm := Lib.hid hm
  have HL := Lib.hid hL
  have HT0 := Lib.hid hT0
  have HTW := Lib.hid hTW
  have Tz := Lib.hid fun x h0 hx w hT => (callsIn_wide (n := n - 1)).2 (tz_any x h0 hx w hT)
  clear cB hS hm hL hT0 hTW
  refine callsIn_of_wp Tryd.func37 rfl trivial ?_ rfl
  simp only [Tryd.ntmps37, List.size_toArray, List.length_cons, List.length_nil, Nat.reduceAdd, Nat.reduceSub, Array.replicate_succ, Array.replicate_zero, List.push_toArray, List.append_toArray, List.nil_append, List.cons_append]
  gi_wp2
  gi_loopw [3, 4, 8] (fun s v j wr => ∃ (a : Nat) (pre : List Int), j = .int .i64 a ∧ a ≤ m ∧ Hid (pre = lstW (L.take a)) ∧ J pre wr ∧ Keeps n₀ Bl W wr) (fun _ _ j _ => m - (intOf j).toNat)
  case atStart => exact ⟨0, [], rfl, Nat.zero_le _, Lib.hid rfl, h0, Keeps.refl _ _ _⟩
  case round =>
    obtain ⟨a, pre, rfl, hk, hA, hJs, hK⟩ := hrel
    by_cases hlt : a < m
    · obtain ⟨x, hx⟩ : ∃ x, x = L.getD a 0 := ⟨_, rfl⟩
      have hal : a < L.length := by rw [← Hm.out]; exact hlt
      obtain ⟨b, o, rfl, hbB, hcell0⟩ := hrd a (by rw [nat_len]; exact hal)
      rw [nat_getD, ← hx] at hcell0
      have hcx := (hK.1.cell (p := ⟨b, o + a, none⟩) (Nat.lt_of_lt_of_le hbB hw0)).trans ((hbel.cell (p := ⟨b, o + a, none⟩) (Nat.lt_of_lt_of_le hbB hw0)).trans hcell0)
      have hI := Lib.hid (atW_in HL.out hal hA.out)
      rw [← hx] at hI
      have haI : (a : Int) < (m : Int) := by omega
      clear hcell0 hx hal
      gi_wp2
      gi_loopw [4] (fun v wr => ∃ (y : Nat) (pre : List Int), v = .int .u64 y ∧ Hid (AtW L a y pre) ∧ J pre wr ∧ Keeps n₀ Bl W wr) (fun v _ => (intOf v).toNat)
      case atStart => exact ⟨x, pre, rfl, hI, hJs, hK⟩
      case round =>
        clear hJs hK hI hcx
        obtain ⟨y, pre, rfl, hI, hJs, hK⟩ := hrel
        by_cases hy0 : y = 0
        · subst hy0
          have hout := Lib.hid (atW_out hI.out)
          gi_wp2
          go_roundw
          case rel => exact ⟨a + 1, pre, by go_num, by omega, hout, hJs, hK⟩
          case measure => simp [intOf]; omega
        · have hnext := Lib.hid (atW_next hI.out hy0)
          have hlt2 := low_lt y hy0
          have hlen := atW_lt HL.out hI.out hy0
          have hy64 := hI.out.2.1
          have hTr := tab_keep HT0.out hw0 hK.1 HTW.out
          have C := Lib.hid (Tz.out y hy0 hy64 _ hTr)
          have hk64 : Lib.ctz 64 y < 64 := (Lib.lowest_bit 64 y hy0 hy64).2
          have hyb : ((y : Int) == 0) = false := by simpa using hy0
          have hsub : IntKind.u64.wrap ((y : Int) - 1) = ((y - 1 : Nat) : Int) := by rw [IntKind.wrap_u64]; omega
          have hand := bits_and_u64_nat y (y - 1) hy64 (by omega)
          obtain ⟨k, hk'⟩ : ∃ k, k = Lib.ctz 64 y := ⟨_, rfl⟩
          rw [← hk'] at C hk64 hnext
          obtain ⟨z, hz⟩ : ∃ z, z = y &&& (y - 1) := ⟨_, rfl⟩
          rw [← hz] at hand hnext hlt2
          obtain ⟨y1, hy1⟩ : ∃ y1, y1 = y - 1 := ⟨_, rfl⟩
          rw [← hy1] at hand hsub
          obtain ⟨fn, tmps, assign, body, hy, hRd⟩ := hY pre ((a : Int) * 64 + (k : Int)) _ hJs hlen
          clear hk' hz hy1 hTr hy64 hlen
          gi_wp2_with (refine ⟨trivial, ?_⟩; gi_at_call 38; refine C.out.mono ?_; rintro e w1 ⟨rfl, rfl⟩)
          refine hRd.mono ?_
          rintro e W3 (⟨rfl, hJ3, hk3⟩ | ⟨rfl, hJx3⟩)
          · gi_wp2
            go_roundw
            case rel => exact ⟨z, _, rfl, hnext, hJ3, hK.trans hk3⟩
            case measure => simp [intOf]; omega
          · have hpre := atW_pre hnext.out
            gi_wp2
            refine bodyPost_ret (results_none rfl _ _ _) rfl ?_
            exact ⟨⟨_, rfl⟩, .inr ⟨_, hpre, hJx3⟩⟩
    · have haI : ¬ (a : Int) < (m : Int) := by omega
      have hfin := Lib.hid (show pre = lstW L by
        have := hA.out
        rwa [List.take_of_length_le (by rw [← Hm.out]; omega)] at this)
      gi_wp2
      go_end0
      exact ⟨⟨_, rfl⟩, .inl (hfin.out ▸ hJs)⟩
theorem all_in (n : Nat) (A : Option Addr) (m c : Nat) (w : World) :
    CallsIn Fence.wide n Tryd.prog 30 #[.agg #[.slice A m c]] w fun e w' => e = .returned (.func (.func 37) #[] #[.pointer (some ⟨w.heap.size, 0, none⟩)]) ∧ w' = w.alloc (.cells #[.slice A m c] 27) := by
  refine callsIn_of_wp Tryd.func30 rfl trivial ?_ rfl
  simp only [Tryd.ntmps30, List.size_toArray, List.length_cons, List.length_nil, Nat.reduceAdd, Nat.reduceSub, Array.replicate_succ, Array.replicate_zero, List.push_toArray, List.append_toArray, List.nil_append, List.cons_append]
  gi_wp2
  go_ret
  exact ⟨rfl, rfl⟩
theorem hands_any (A : Option Addr) (m c : Nat) (X : List Int) (w wl : World) (hX : St w A m c X) (hT : Tab w) (hwl : Below w.heap.size w wl) :
    CallsIn Fence.wide 3 Tryd.prog 30 #[.agg #[.slice A m c]] wl (Hands w.heap.size wl X) := by
  obtain ⟨L, hS, hL, tL, rfl⟩ := hX
  refine (all_in 3 A m c wl).mono ?_
  rintro e w' ⟨rfl, rfl⟩
  have hb1 : Below wl.heap.size wl (wl.alloc (.cells #[.slice A m c] 27)) := (Below.refl _ _).alloc (Nat.le_refl _) _
  have hTl : Tab (wl.alloc (.cells #[.slice A m c] 27)) := (hT.below hwl).below hb1
  refine ⟨_, _, wl.heap.size, 65536, rfl, fun _ _ => by kernel_rfl, hb1, Nat.le_refl _, by simp, by omega, fun n hn l J Jx W hW hJ _ hY h0 => ?_⟩
  exact each_in n (by omega) l wl.heap.size w.heap.size A m c L w hT (Nat.le_refl _) hL J Jx W hY (Wd.Bx.below (Wd.Bx.new wl _ _) (by simp) hW) (hTl.below hW) hS (hwl.trans ((hb1.trans (hW.mono hb1.size)).mono hwl.size)) h0
theorem list_of {w : World} {A : Option Addr} {n c : Nat} {X : List Int} (hX : St w A n c X) (hT : Tab w) (k : Int) :
    Calls Tryd.prog 12 #[.agg #[.slice A n c], .int .i64 k] w (Wd.Out w .i64 (hd k X)) :=
  list_any A n c X k w fun wl hwl => hands_any A n c X w wl hX hT hwl
end Bw
end Go.Proofs.YtgmjafammdkgfaaDoor
