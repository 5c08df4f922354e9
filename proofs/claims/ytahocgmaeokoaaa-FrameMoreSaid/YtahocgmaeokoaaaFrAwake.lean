/- The examples of chapter 4 hold: the function awake of layer 4's statements answers true. -/
import Derived.Test.YtahocgmaeokoaaaFrRead
import Derived.Test.YtahocgmaeokoaaaFrSeal
import Derived.Deep.RegionHeld3
import Derived.Deep.DeepCutAuto
import Derived.Lib.SlBytesConst
namespace Go.Proofs.Ytahocgmaeokoaaa
open Go.RowKit
namespace Fc
open Nc

theorem frame7 : Fr.frame [7] = [1, 7, 46, 122, 102, 76] := by decide +kernel
theorem sum9 : Fr.sum [49, 50, 51, 52, 53, 54, 55, 56, 57] = 3421780262 := by decide +kernel
theorem rd7 : Fr.rd ([1, 7, 46, 122, 102, 76] ++ [1, 7, 46, 122, 102]) = ([[7]], 6) := by
  have h1 := Fr.rd_frame [7] ((Fr.frame [7]).take 5) (by decide)
  rw [Fr.rd_none (Fr.openF_cut [7] (by decide) 5 (by rw [frame7]; decide)), frame7] at h1
  exact h1

theorem sl_litF (w : World) (k : IntKind) (xs : List Int) (e : TypeId) (cs : Array Value) (n : Nat) (fr : Nat × Nat) (h : cs = (xs.map (Value.int k)).toArray) (hn : n = xs.length) (hm : n ≤ maxLen) :
    Wd.Sl (w.alloc (.cells cs e fr)) k (some ⟨w.heap.size, 0, none⟩) n n xs := by
  subst h
  refine ⟨hn, Nat.le_refl _, hm, by simp, Wd.Rd.mk (by simp) fun j hj => ?_⟩
  rw [cell_of_row _ _ _ _ _ _ (heap_alloc_new w _)]
  simp [List.getD, List.getElem?_eq_getElem hj]

set_option maxRecDepth 100000 in
set_option maxHeartbeats 1000000 in
theorem awake_any (w : World) : Calls Try.prog 8 #[] w fun e w' => e = .returned (.bool true) ∧ Below w.heap.size w w' := by
  obtain ⟨i0, hi, hz0, hz1, hz2⟩ := info_parts info_u8
  have b1 : Nm.Byt [7] := by intro x hx; simp at hx; omega
  have b2 : Nm.Byt [49, 50, 51, 52, 53, 54, 55, 56, 57] := by intro x hx; simp at hx; omega
  have b3 : Nm.Byt ([1, 7, 46, 122, 102, 76] ++ [1, 7, 46, 122, 102]) := by intro x hx; simp at hx; omega
  have c1 := fun A n c w hS hn => Seal_any A n c [7] w hS b1 hn
  have c2 := fun A n c w hS hm => read_any A n c ([1, 7, 46, 122, 102, 76] ++ [1, 7, 46, 122, 102]) w hS hm b3
  have c3 := fun A n c w hS => Sum_any A n c [49, 50, 51, 52, 53, 54, 55, 56, 57] w hS b2
  rw [frame7] at c1
  rw [rd7] at c2
  rw [sum9] at c3
  have C1 := Lib.hid c1
  have C2 := Lib.hid c2
  have C3 := Lib.hid c3
  clear c1 c2 c3 b1 b2 b3
  go_enter Try.func8, Try.ntmps8
  go_wp2_with fail
  refine (C1.out _ 1 1 _ (Wd.Sl.lit w .u8 [7] _ _ 1 rfl rfl (by decide)) (by omega)).mono ?_
  rintro e w1 ⟨A1, n1, k1, rfl, hS1, hB1⟩
  have hW1 : Below w.heap.size w w1 := ((Below.refl _ _).alloc (Nat.le_refl _) _).trans (hB1.mono (by simp))
  obtain rfl : n1 = 6 := hS1.len
  have hk1 := hS1.cap
  have hm1 := hS1.max
  unfold maxLen at hm1
  obtain ⟨ab, ao, rfl, hab, hac⟩ := hS1.rd.some_ (by decide)
  have a0 : w1.cell? ⟨ab, ao, none⟩ = some (.int .u8 1) := hac 0 (by decide)
  have a1 : w1.cell? ⟨ab, ao + 1, none⟩ = some (.int .u8 7) := hac 1 (by decide)
  have hS5 := hS1.head 5 (by omega)
  have kc := fun (w : World) (C : Array Value) (n c : Nat) => Lib.run_convert_bytes_const (P := Try.prog) w 22 5 C n c Try.underlying22 Try.underlying5
  have hk5 : (5 : Int) ≤ (k1 : Int) := by omega
  have hk6 : 5 ≤ k1 := by omega
  clear hB1 hac
  go_upto_region 4 with fail
  go_cut [3, 4] (fun u v wx => ∃ A3 n3 c3, u = .slice A3 n3 c3 ∧ v = .int .i64 6 ∧ Wd.Ss wx A3 n3 c3 [[7]] ∧ Below w1.heap.size w1 wx)
  case first =>
    go_region_held3 (fun _ => True) (exact trivial) (first | (refine Wd.step_app _ rfl (.const (.slice none 0 0)) (.tmp 18) 22 rfl w1.heap.size 5 i0 _ .u8 1 Try.underlying22 hi hz0 hz1 hz2 rfl (.slice none 0 0) [] rfl (World.ownsRow_nil _ _ _ _) w1.heap.size _ 6 k1 [1, 7, 46, 122, 102, 76] rfl rfl (by simp) hS1.rd (by simp) (by simp [maxLen]) (Nat.le_refl _) ?_; intro v2 w2 hO2 hg2; have hb2 : Below w1.heap.size w1 w2 := Wd.of_drew ((Below.refl w1.heap.size w1.drew).grown hg2 (Nat.le_refl _) (fun g hg => by simp [Value.ownBlock] at hg)); have hS52 := hS5.below hb2) | (refine Wd.step_app _ rfl (.tmp 19) (.tmp 21) 22 rfl w1.heap.size 5 i0 _ .u8 1 Try.underlying22 hi hz0 hz1 hz2 rfl v2 [1, 7, 46, 122, 102, 76] rfl hO2 w2.heap.size _ 5 k1 [1, 7, 46, 122, 102] rfl rfl (by simp) hS52.rd (by simp) (by simp [maxLen]) hb2.size ?_; intro v3 w3 hO3 hg3; have hb3 : Below w1.heap.size w1 w3 := hb2.grown hg3 hb2.size (fun g hg => (hO2.lt g hg).1); obtain ⟨A4, n4, k4, rfl, hS4⟩ := Wd.Sl.of_own hO3) | (go_at_call 14; (with_reducible refine (C2.out A4 n4 k4 w3 hS4 (by rw [hS4.len]; decide)).mono ?_); rintro e w5 ⟨A5, n5, k5, rfl, hS5', hB5⟩))
    all_goals (go_wp2_with fail; go_meet; exact ⟨A5, n5, k5, rfl, rfl, hS5', hb3.trans (hB5.mono hb3.size)⟩)
  case rest =>
    obtain ⟨A3, n3, c3, rfl, rfl, hS3, hb3⟩ := hcut
    obtain rfl : n3 = 1 := hS3.len
    have hW3 := hW1.trans (hb3.mono hW1.size)
    have a0' := (hb3.cell (p := ⟨ab, ao, none⟩) hab).trans a0
    have a1' := (hb3.cell (p := ⟨ab, ao + 1, none⟩) hab).trans a1
    clear hS3 hW3 hS1 hS5 C1 C2
    go_wp2_with fail
    refine (C3.out _ 9 9 _ (sl_litF _ .u8 [49, 50, 51, 52, 53, 54, 55, 56, 57] _ _ 9 _ rfl rfl (by decide))).mono ?_
    rintro e w6 ⟨rfl, hb6⟩
    have hb36 : Below w1.heap.size w1 w6 := (hb3.alloc hb3.size _).trans (hb6.mono (by have := hb3.size; simp; omega))
    have a0'' := (hb36.cell (p := ⟨ab, ao, none⟩) hab).trans a0
    have a1'' := (hb36.cell (p := ⟨ab, ao + 1, none⟩) hab).trans a1
    clear a0 a1 a0' a1' C3 hb6 kc
    go_wp2_with fail
    go_ret
    exact ⟨rfl, hW1.trans (hb36.mono hW1.size)⟩
end Fc
end Go.Proofs.Ytahocgmaeokoaaa
