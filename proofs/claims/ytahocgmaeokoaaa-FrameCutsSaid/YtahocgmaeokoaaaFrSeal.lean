/- What Seal of package frame does. -/
import Derived.Test.YtahocgmaeokoaaaFrSum
import Derived.Test.YtahocgmaeokoaaaFrFrame
namespace Go.Proofs.Ytahocgmaeokoaaa
open Go.RowKit
namespace Fc
open Nc

set_option maxRecDepth 100000 in
set_option maxHeartbeats 1000000 in
theorem Seal_any (A : Option Addr) (n c : Nat) (b : List Int) (w : World) (hS : Wd.Sl w .u8 A n c b) (hB : Nm.Byt b) (hn : n ≤ 65536) :
    Calls Try.prog 9 #[.slice A n c] w (Wd.Out2 w .u8 (Fr.frame b) 0) := by
  obtain ⟨i0, hi, hz0, hz1, hz2⟩ := info_parts info_u8
  obtain ⟨hz, hsz⟩ := zero_of_info info_eff
  obtain ⟨zc, hzc⟩ : ∃ zc : Array Value, zc = Array.replicate 256 (Value.int .u32 0) := ⟨_, rfl⟩
  rw [← hzc] at hz
  have hzs : zc.size = 256 := by rw [hzc]; exact Array.size_replicate
  have C1 := newEffects_any w
  obtain ⟨tc, htc⟩ : ∃ tc : Array Value, tc = (tab.map (Value.int .u32)).toArray := ⟨_, rfl⟩
  have hts : tc.size = 256 := by rw [htc, List.size_toArray, List.length_map, tab_len]
  have ht1 : tc.all (·.oneCell') = true := by rw [htc]; exact ints_all _ _
  rw [← htc] at C1
  have hsc := fun w : World => run_storeCells_new (P := Try.prog) w 43 zc tc (by rw [hsz, hts]) (by rw [hzs, hts]) ht1
  have hl := hS.len
  have hvl := Nm.vd_len (b.length : Int)
  have HC1 := Lib.hid C1
  have Hl := Lib.hid hl
  have C2 := fun w' => putLen0_own (n : Int) w' (by omega) (by omega)
  have hfr : Fr.frame b = (Nm.vd (n : Int) ++ b) ++ Fr.le4 (Fr.sum b) := by rw [hl]; rfl
  rw [← hl] at hvl
  have HC2 := Lib.hid C2
  have Hfr := Lib.hid hfr
  have HS := Lib.hid hS
  have HB := Lib.hid hB
  have Htc := Lib.hid htc
  have hcn := hS.cap
  have hmx := hS.max
  have hnil := Lib.hid hS.nil
  unfold maxLen at hmx
  clear C1 C2 htc ht1 hzs hzc hsz hl hfr hS hB
  generalize Nm.vd (n : Int) = vs at *
  go_enter Try.func9, Try.ntmps9
  go_wp2_with fail
  refine HC1.out.mono ?_
  rintro e w1 ⟨rfl, hb1⟩
  have hb2 : Below w.heap.size w (w1.alloc (.cells tc 43)) := hb1.alloc hb1.size _
  have hT2 : Tb (w1.alloc (.cells tc 43)) w1.heap.size := by rw [Htc.out]; exact heap_alloc_new w1 _
  clear HC1
  go_wp2_with fail
  generalize hw2 : w1.alloc (.cells tc 43) = w2 at hb2 hT2 ⊢
  have hg2 := hT2.lt
  refine (HC2.out w2).mono ?_
  rintro e w3 ⟨v3, rfl, hO3, hb3⟩
  clear hw2 HC2
  have hW3 : Below w.heap.size w w3 := hb2.trans (hb3.mono hb2.size)
  have hS3 := HS.out.below hW3
  go_wp2_with (at_builtin; refine Wd.wpList_app _ rfl (.tmp 12) (.tmp 13) 22 rfl w2.heap.size 5 i0 _ .u8 1 Try.underlying22 hi hz0 hz1 hz2 rfl v3 vs rfl hO3 w3.heap.size A n c b rfl Hl.out hnil.out hS3.rd (by rw [← Hl.out]; omega) (by rw [← Hl.out]; unfold maxLen; omega) hb3.size ?_; intro v4 w4 hO4 hg4)
  have hb4 : Below w2.heap.size w2 w4 := hb3.grown hg4 hb3.size fun g hg => (hO3.lt g hg).1
  have hW4 : Below w.heap.size w w4 := hb2.trans (hb4.mono hb2.size)
  clear hO3 hg4 hb3 hW3 hS3
  refine (tail_any w1.heap.size A n c b w4 (hT2.below hg2 hb4) (HS.out.below hW4) HB.out).mono ?_
  rintro e w5 ⟨A5, n5, c5, rfl, hS5, hb5⟩
  have hO5 := Wd.own_below hO4 hb5
  have hb25 : Below w2.heap.size w2 w5 := hb4.trans (hb5.mono hb4.size)
  have hs5 := hb25.size
  clear hO4 hb4 hW4 hb5
  have hvb : (vs ++ b).length ≤ 65546 := by rw [List.length_append, ← Hl.out]; omega
  have h4 : (Fr.le4 (Fr.sum b)).length = 4 := rfl
  generalize Fr.le4 (Fr.sum b) = qs at *
  have Hn5 := Lib.hid hS5.len
  go_wp2_with (at_builtin; refine Wd.wpList_app _ rfl (.tmp 15) (.tmp 17) 22 rfl w2.heap.size 5 i0 _ .u8 1 Try.underlying22 hi hz0 hz1 hz2 rfl v4 (vs ++ b) rfl hO5 w5.heap.size A5 n5 c5 qs rfl Hn5.out hS5.nil hS5.rd (by omega) (by unfold maxLen; omega) hs5 ?_; intro v6 w6 hO6 hg6)
  go_ret2
  obtain ⟨A6, n6, c6, rfl, hS6⟩ := Wd.Sl.of_own hO6
  rw [Hfr.out]
  exact ⟨A6, n6, c6, rfl, hS6, hb2.trans ((hb25.grown hg6 hb25.size fun g hg => (hO5.lt g hg).1).mono hb2.size)⟩

theorem Seal_long (A : Option Addr) (n c : Nat) (w : World) (hn : 65536 < n) :
    Calls Try.prog 9 #[.slice A n c] w fun e w' => e = .returned (.tuple #[.slice none 0 0, .int .i64 2]) ∧ w = w' := by
  have hn' : (65536 : Int) < (n : Int) := by omega
  go_enter Try.func9, Try.ntmps9
  go_wp2_with fail
  go_ret2
  exact ⟨rfl, rfl⟩
end Fc
end Go.Proofs.Ytahocgmaeokoaaa
