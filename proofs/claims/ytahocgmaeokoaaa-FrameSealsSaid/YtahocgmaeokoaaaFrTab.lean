/- What step and newEffects of package frame do: the array of the effects of eight steps. -/
import Derived.Test.YtahocgmaeokoaaaProg
import Derived.Test.YtahocgmaeokoaaaWords
import Derived.Test.YtahocgmaeokoaaaMem
import Derived.Test.YtahocgmaeokoaaaBox
import Derived.Test.YtahocgmaeokoaaaFrMath
import Derived.WalkKit
import Derived.WalkSpells
import Derived.Lib.Hide
import Derived.Laws.BitsAllLaws
import Derived.Deep.WholeRow
namespace Go.Proofs.Ytahocgmaeokoaaa
open Go.RowKit
namespace Fc

/-- The effect of eight steps on each value of 8 bits. -/
def tab : List Int := (List.range 256).map fun i => ((Fr.stN 8 i : Nat) : Int)
theorem tab_len : tab.length = 256 := by simp [tab]
theorem tab_get (i : Nat) (h : i < 256) : tab.getD i 0 = ((Fr.stN 8 i : Nat) : Int) := by simp [tab, List.getD, h]

theorem below_setRow {B g : Nat} {w w' : World} (h : Below B w w') (hg : B ≤ g) (cs : Array Value) : Below B w (w'.setRow g cs) :=
  ⟨h.os, h.tape, h.output, by rw [size_setRow]; exact h.size, fun k hk => (setRow_other w' g k cs (by omega)).trans (h.block k hk)⟩
theorem ints_all (k : IntKind) : ∀ xs : List Int, ((xs.map (Value.int k)).toArray).all (·.oneCell') = true := fun xs => by
  rw [Array.all_eq_true_iff_forall_mem]
  intro v hv
  simp at hv
  obtain ⟨x, _, rfl⟩ := hv
  rfl

theorem step_any (r : Nat) (w : World) (h : r < 4294967296) :
    Calls Try.prog 28 #[.int .u32 r] w fun e w' => e = .returned (.int .u32 (Fr.st r)) ∧ w = w' := by
  have ha : bits BinOp.and IntKind.u32 (r : Int) 1 = ((r % 2 : Nat) : Int) := by
    have := u32_and_nat r 1 h (by decide)
    rw [Nat.and_one_is_mod] at this
    exact this
  rcases Nat.mod_two_eq_zero_or_one r with q | q
  · have hs : Fr.st r = r / 2 := if_neg (by omega)
    rw [q] at ha
    rw [hs]
    go_enter Try.func28, Try.ntmps28
    go_wp2
    go_ret
    exact ⟨rfl, rfl⟩
  · have hs : bits BinOp.xor IntKind.u32 ((r : Int) / 2) 3988292384 = ((Fr.st r : Nat) : Int) := by
      have := u32_xor_nat (r / 2) 3988292384 (by omega) (by decide)
      rw [show Fr.st r = r / 2 ^^^ 3988292384 from if_pos q, ← this]
      rfl
    have Hs := Lib.hid hs
    rw [q] at ha
    clear hs
    go_enter Try.func28, Try.ntmps28
    go_wp2
    go_ret
    exact ⟨congrArg (fun x => Ending.returned (.int .u32 x)) Hs.out, rfl⟩

theorem info_eff : (Try.prog.info? 43).map (fun i => (i.zero, i.size)) = some (some (.agg (Array.replicate 256 (.int .u32 0))), 256) := by kernel_rfl

set_option maxRecDepth 100000 in
set_option maxHeartbeats 1000000 in
theorem newEffects_any (w : World) :
    Calls Try.prog 19 #[] w fun e w' => e = .returned (.agg (tab.map (Value.int .u32)).toArray) ∧ Below w.heap.size w w' := by
  obtain ⟨hz, hsz⟩ := zero_of_info info_eff
  obtain ⟨zc, hzc⟩ : ∃ zc : Array Value, zc = Array.replicate 256 (Value.int .u32 0) := ⟨_, rfl⟩
  rw [← hzc] at hz
  have hz1 : zc = ((Wd.fill tab 0).map (Value.int .u32)).toArray := by rw [hzc, Wd.fill_zero, tab_len, List.map_replicate, List.toArray_replicate]
  have hzs : zc.size = 256 := by rw [hzc]; exact Array.size_replicate
  clear hzc
  have Hz1 := Lib.hid hz1
  have Hzs := Lib.hid hzs
  have Hsz := Lib.hid hsz
  clear hz1 hzs hsz
  obtain ⟨tc, htc⟩ : ∃ tc : Array Value, tc = (tab.map (Value.int .u32)).toArray := ⟨_, rfl⟩
  have hts : tc.size = 256 := by rw [htc, List.size_toArray, List.length_map, tab_len]
  have ht1 : tc.all (·.oneCell') = true := by rw [htc]; exact ints_all _ _
  rw [← htc]
  have Htc := Lib.hid htc
  have Ht := Lib.hid ht1
  have Hts := Lib.hid hts
  clear htc ht1 hts
  go_enter Try.func19, Try.ntmps19
  go_wp2_with fail
  go_loopw [4] (fun i wr => ∃ k : Nat, i = .int .i64 k ∧ k ≤ 256 ∧ Wd.Row wr (w.heap.size + 1) .u32 43 (Wd.fill tab k) ∧ Wd.Bx wr w.heap.size 43 zc ∧ Below w.heap.size w wr) (fun i _ => 256 - (intOf i).toNat)
  case atStart =>
    refine ⟨0, rfl, Nat.zero_le _, ?_, (Wd.Bx.new w _ zc).alloc _, ((Below.refl _ _).alloc (Nat.le_refl _) _).alloc (by simp) _⟩
    have := Wd.Bx.new (w.alloc (.cells zc 43)) 43 zc
    rw [World.size_alloc] at this
    unfold Wd.Bx at this
    unfold Wd.Row
    rw [this, ← Hz1.out]
  case round =>
    obtain ⟨k, rfl, hk, hR, hB, hbel⟩ := hrel
    have hsz := hbel.size
    by_cases hlt : k < 256
    · obtain ⟨wo, rfl⟩ : ∃ wo : World, wo = wr := ⟨_, rfl⟩
      have hkI : (k : Int) < 256 := by omega
      have hfl : (Wd.fill tab k).length = 256 := by rw [Wd.fill_len, tab_len]
      have cR := hR.cell k (by rw [hfl]; exact hlt)
      have fR := hR.free k
      clear hfl
      go_wp2_with fail
      go_loopw [3, 9] (fun r j wr => ∃ (i x : Nat), j = .int .i64 i ∧ r = .int .u32 x ∧ i ≤ 8 ∧ x < 4294967296 ∧ Hid (Fr.stN (8 - i) x = Fr.stN 8 k) ∧ wr = wo) (fun _ j _ => 8 - (intOf j).toNat)
      case atStart => exact ⟨0, k, rfl, rfl, Nat.zero_le _, by omega, Lib.hid rfl, rfl⟩
      case round =>
        obtain ⟨i, x, rfl, rfl, hi, hx, hst, rfl⟩ := hrel
        by_cases hi8 : i < 8
        · have hiI : (i : Int) < 8 := by omega
          go_wp2_with fail
          refine (step_any x wr hx).mono ?_
          rintro e w1 ⟨rfl, rfl⟩
          go_wp2_with fail
          go_roundw
          case rel =>
            refine ⟨i + 1, Fr.st x, by go_num, rfl, by omega, Fr.st_lt hx, Lib.hid ?_, trivial⟩
            have := hst.out
            rw [show 8 - i = (8 - (i + 1)) + 1 by omega] at this
            exact this
          case measure => simp [intOf]; omega
        · have hiI : ¬ (i : Int) < 8 := by omega
          have hxs : x = Fr.stN 8 k := by
            have := hst.out
            rw [show 8 - i = 0 by omega] at this
            exact this
          have Hx := Lib.hid hxs
          clear hxs hst
          go_wp2_with fail
          go_roundw
          case rel =>
            refine ⟨k + 1, by go_num, by omega, ?_, ?_, ?_⟩
            · have := hR.set k x
              rw [← Wd.fill_set tab k (by rw [tab_len]; exact hlt), tab_get k hlt, ← Hx.out]
              exact this
            · unfold Wd.Bx
              rw [heap_setCell_other _ _ _ _ (by simp)]
              exact hB
            · exact hbel.setCell (p := ⟨w.heap.size + 1, k, none⟩) (by simp) _
          case measure => simp [intOf]; omega
    · have hkI : ¬ (k : Int) < 256 := by omega
      have hk256 : k = 256 := by omega
      have hR2 : wr.heap[w.heap.size + 1]? = some (.cells (tab.map (Value.int .u32)).toArray 43 (0, 0)) := by
        have : Wd.Row wr (w.heap.size + 1) .u32 43 (Wd.fill tab tab.length) := by rw [tab_len, ← hk256]; exact hR
        rw [Wd.fill_all] at this
        exact this
      have hB2 : wr.heap[w.heap.size]? = some (.cells zc 43 (0, 0)) := hB
      rw [← Htc.out] at hR2
      clear hR hB hk256
      go_wp2_with fail
      refine wp_load_row 43 (.tmp 1) rfl (w.heap.size + 1) rfl 43 tc (0, 0) _ hR2 Try.underlying43 rfl (by rw [Hsz.out, Hts.out]) ?_
      rename_i hK
      refine hK _ _ ?_
      clear hK
      refine wpList_store_row rfl 43 (.tmp 0) (.tmp 18) rfl w.heap.size tc rfl rfl 43 zc hB2 (by rw [Hsz.out, Hts.out]) (by rw [Hzs.out, Hts.out]) Ht.out ?_
      go_wp2_with fail
      refine bodyPost_ret (v := .agg tc) (results_cell_row rfl _ _ w.heap.size 43 tc (0, 0) _ rfl (setRow_heap wr w.heap.size zc tc _ _ hB2) Try.underlying43 rfl (by rw [Hsz.out, Hts.out])) rfl ⟨rfl, below_setRow hbel (Nat.le_refl _) tc⟩
end Fc
end Go.Proofs.Ytahocgmaeokoaaa
