/- What the checksum's functions of package frame do: sum, tail, Sum. -/
import Derived.Test.YtahocgmaeokoaaaFrTab
import Derived.Test.YtahocgmaeokoaaaNumPutV
import Derived.Deep.RegionWith
import Derived.Deep.DeepCutAuto
namespace Go.Proofs.Ytahocgmaeokoaaa
open Go.RowKit
namespace Fc

/-- Block g is the array of effects. -/
def Tb (w : World) (g : Nat) : Prop := Wd.Row w g .u32 43 tab
theorem byt_get {b : List Int} (h : Nm.Byt b) (k : Nat) (hk : k < b.length) : 0 ≤ b.getD k 0 ∧ b.getD k 0 ≤ 255 := h _ (by simp [List.getD, hk])
theorem take_next (l : List Int) (k : Nat) (h : k < l.length) : l.take (k + 1) = l.take k ++ [l.getD k 0] := by
  rw [List.take_succ_eq_append_getElem h]
  simp [List.getD, h]
theorem xor_byte (x : Nat) (c : Int) (h0 : 0 ≤ c) (h1 : c ≤ 255) : bits BinOp.xor IntKind.u8 ((x : Int) % 256) c = ((x % 256 ^^^ c.toNat : Nat) : Int) ∧ x % 256 ^^^ c.toNat < 256 := by
  have e : ((x : Int) % 256) = ((x % 256 : Nat) : Int) := by omega
  refine ⟨?_, Fr.xor_lt (n := 8) (by omega) (by omega)⟩
  rw [e, u8_xor _ _ (by omega) (by omega) h0 (by omega)]
  rfl

set_option maxHeartbeats 1000000 in
theorem sum_any (g : Nat) (A : Option Addr) (n c : Nat) (b : List Int) (w : World) (hT : Tb w g) (hS : Wd.Sl w .u8 A n c b) (hB : Nm.Byt b) :
    Calls Try.prog 22 #[.pointer (some ⟨g, 0, none⟩), .slice A n c] w fun e w' => e = .returned (.int .u32 (Fr.sum b)) ∧ w = w' := by
  obtain ⟨hl, hc, hx, hA, hr⟩ := hS
  unfold maxLen at hx
  have Hl := Lib.hid hl
  have HB := Lib.hid hB
  have HT := Lib.hid hT
  clear hl hB hT
  go_enter Try.func22, Try.ntmps22
  go_wp2
  go_loop [5, 10] (fun r i => ∃ (k x : Nat), i = .int .i64 k ∧ r = .int .u32 x ∧ k ≤ n ∧ x < 4294967296 ∧ Hid (Fr.reg 4294967295 (b.take k) = x)) (fun _ i => n - (intOf i).toNat)
  case atStart => exact ⟨0, 4294967295, rfl, rfl, Nat.zero_le _, by decide, Lib.hid rfl⟩
  case round =>
    obtain ⟨k, x, rfl, rfl, hk, hxl, hR⟩ := hrel
    by_cases hlt : k < n
    · have hlt' : k < b.length := by rw [← Hl.out]; exact hlt
      obtain ⟨B, o, rfl, _, hcell⟩ := hr k hlt'
      obtain ⟨q0, q1⟩ := byt_get HB.out k hlt'
      have hnx := take_next b k hlt'
      obtain ⟨y, hy⟩ : ∃ y, y = b.getD k 0 := ⟨_, rfl⟩
      rw [← hy] at hcell q0 q1 hnx
      obtain ⟨e1, e2⟩ := xor_byte x y q0 q1
      obtain ⟨j, hj⟩ : ∃ j, j = x % 256 ^^^ y.toNat := ⟨_, rfl⟩
      rw [← hj] at e1 e2
      have hct := HT.out.cell j (by rw [tab_len]; exact e2)
      rw [tab_get j e2] at hct
      have Hj := Lib.hid hj
      have Hn := Lib.hid hnx
      have e2' : (j : Int) < 256 := by omega
      clear hy hj hnx
      have hst := Fr.stN_lt 8 (r := j) (by omega)
      have hX : bits BinOp.xor IntKind.u32 ((x : Int) / 256) ((Fr.stN 8 j : Nat) : Int) = ((Fr.bt x y.toNat : Nat) : Int) := by
        have := u32_xor_nat (x / 256) (Fr.stN 8 j) (by omega) (by omega)
        rw [Fr.bt_tab, ← Hj.out, ← this]
        rfl
      have hbt : Fr.bt x y.toNat < 4294967296 := Fr.bt_lt (by omega) (by omega)
      have HX := Lib.hid hX
      clear hX
      go_wp2
      rw [HX.out]
      refine ⟨⟨k + 1, _, by go_num, rfl, by omega, hbt, Lib.hid ?_⟩, by simp [intOf]; omega⟩
      rw [Hn.out, Fr.reg_snoc, hR.out]
    · have hkn : k = b.length := by rw [← Hl.out]; omega
      have hX : bits BinOp.xor IntKind.u32 IntKind.u32.max (x : Int) = ((Fr.sum b : Nat) : Int) := by
        have e1 : IntKind.u32.max = ((4294967295 : Nat) : Int) := by decide
        have h := hR.out
        rw [hkn, List.take_length] at h
        rw [e1, u32_xor_nat _ _ (by decide) hxl, Nat.xor_comm, Fr.sum_xor b HB.out, h]
      have HX := Lib.hid hX
      clear hX hkn
      go_wp2
      go_ret
      exact ⟨congrArg (fun z => Ending.returned (.int .u32 z)) HX.out, rfl⟩

theorem le4_get (s k : Nat) (hk : k < 4) : (Fr.le4 s).getD k 0 = ((s / 256 ^ k % 256 : Nat) : Int) := by
  rcases (show k = 0 ∨ k = 1 ∨ k = 2 ∨ k = 3 by omega) with rfl | rfl | rfl | rfl <;> simp [Fr.le4]

set_option maxHeartbeats 1000000 in
theorem tail_any (g : Nat) (A : Option Addr) (n c : Nat) (b : List Int) (w : World) (hT : Tb w g) (hS : Wd.Sl w .u8 A n c b) (hB : Nm.Byt b) :
    Calls Try.prog 21 #[.pointer (some ⟨g, 0, none⟩), .slice A n c] w (Wd.Out w .u8 (Fr.le4 (Fr.sum b))) := by
  have hgl := hT.lt
  have C := Lib.hid fun (w' : World) (hb : Below w.heap.size w w') => sum_any g A n c b w' (hT.below hgl hb) (hS.below hb) hB
  have hsl := Fr.sum_lt b
  generalize Fr.sum b = s at *
  have hmk : ∀ w : World, (Instr.makeSlice 22 (.int .i64 4) (.int .i64 4)).run Try.prog w = .ok (.slice (some ⟨w.heap.size, 0, none⟩) 4 4) (w.alloc (.cells #[.int .u8 0, .int .u8 0, .int .u8 0, .int .u8 0] 5)) := fun _ => by kernel_rfl
  clear hT hS hB hgl
  go_enter Try.func21, Try.ntmps21
  go_upto_region 1 with fail
  go_cut [5, 6] (fun u v wx => u = .slice (some ⟨w.heap.size, 0, none⟩) 4 4 ∧ v = .int .u32 (s : Int) ∧ Wd.Row wx w.heap.size .u8 5 [0, 0, 0, 0] ∧ Below w.heap.size w wx)
  case first =>
    go_region_with (first | (go_at_call 22; refine (C.out _ (by first | exact (Below.refl _ _).drew | exact ((Below.refl _ _).alloc (Nat.le_refl _) _).drew)).mono ?_; rintro e w2 ⟨rfl, rfl⟩))
    all_goals (go_wp2_with fail; go_meet; exact ⟨rfl, rfl, heap_alloc_new w _, ((Below.refl _ _).alloc (Nat.le_refl _) _).drew⟩)
  case rest =>
    obtain ⟨rfl, rfl, hR, hb⟩ := hcut
    have hR0 := (show Wd.Row _ w.heap.size .u8 5 (Wd.fill (Fr.le4 s) 0) from hR)
    clear hR hmk C
    go_wp2_with fail
    go_loopw [6, 14] (fun r i wr => ∃ k : Nat, i = .int .i64 k ∧ k ≤ 4 ∧ r = .int .u32 ((s / 256 ^ k : Nat) : Int) ∧ Wd.Row wr w.heap.size .u8 5 (Wd.fill (Fr.le4 s) k) ∧ Below w.heap.size w wr) (fun _ i _ => 4 - (intOf i).toNat)
    case atStart => exact ⟨0, rfl, Nat.zero_le _, by simp, hR0, hb⟩
    case round =>
      clear hR0 hb
      obtain ⟨k, rfl, hk, rfl, hR, hb⟩ := hrel
      by_cases hlt : k < 4
      · have hfl : (Wd.fill (Fr.le4 s) k).length = 4 := by rw [Wd.fill_len]; rfl
        have cR := hR.cell k (by rw [hfl]; exact hlt)
        have fR := hR.free k
        have hkI : (k : Int) < 4 := by omega
        obtain ⟨y, hy⟩ : ∃ y : Nat, y = s / 256 ^ k := ⟨_, rfl⟩
        have hyl : y < 4294967296 := by
          have := Nat.div_le_self s (256 ^ k)
          omega
        have hnx : y / 256 = s / 256 ^ (k + 1) := by rw [hy, Nat.div_div_eq_div_mul, Nat.pow_succ]
        have hst := Wd.fill_set (Fr.le4 s) k hlt
        rw [le4_get s k hlt, ← hy] at hst
        rw [← hy]
        have Hn := Lib.hid hnx
        have Hs := Lib.hid hst
        clear hy hnx hst hfl
        go_wp2_with fail
        go_roundw
        case rel =>
          refine ⟨k + 1, by go_num, by omega, ?_, ?_, hb.setCell (p := ⟨w.heap.size, k, none⟩) (Nat.le_refl _) _⟩
          · rw [← Hn.out]; rfl
          · have := hR.set k ((y : Int) % 256)
            rw [← Hs.out]
            exact this
        case measure => simp [intOf]; omega
      · have hR4 : Wd.Row wr w.heap.size .u8 5 (Fr.le4 s) := by
          have : Wd.Row wr w.heap.size .u8 5 (Wd.fill (Fr.le4 s) (Fr.le4 s).length) := by
            have e : k = (Fr.le4 s).length := by show k = 4; omega
            rw [← e]; exact hR
          rw [Wd.fill_all] at this
          exact this
        clear hR
        go_wp2_with fail
        go_ret
        exact ⟨_, _, _, rfl, hR4.sl 4 rfl (by simp [maxLen]), hb⟩

set_option maxRecDepth 100000 in
set_option maxHeartbeats 1000000 in
theorem Sum_any (A : Option Addr) (n c : Nat) (b : List Int) (w : World) (hS : Wd.Sl w .u8 A n c b) (hB : Nm.Byt b) :
    Calls Try.prog 12 #[.slice A n c] w fun e w' => e = .returned (.int .i64 (Fr.sum b)) ∧ Below w.heap.size w w' := by
  obtain ⟨hz, hsz⟩ := zero_of_info info_eff
  obtain ⟨zc, hzc⟩ : ∃ zc : Array Value, zc = Array.replicate 256 (Value.int .u32 0) := ⟨_, rfl⟩
  rw [← hzc] at hz
  have hzs : zc.size = 256 := by rw [hzc]; exact Array.size_replicate
  have C1 := newEffects_any w
  obtain ⟨tc, htc⟩ : ∃ tc : Array Value, tc = (tab.map (Value.int .u32)).toArray := ⟨_, rfl⟩
  have hts : tc.size = 256 := by rw [htc, List.size_toArray, List.length_map, tab_len]
  have ht1 : tc.all (·.oneCell') = true := by rw [htc]; exact ints_all _ _
  rw [← htc] at C1
  have hsc := fun w : World => run_storeCells_new (P := Try.prog) w 43 zc tc (by rw [hsz, hts]) (by rw [hzs, hts]) ht1
  have C2 := fun w' (hb : Below w.heap.size w w') => sum_any w'.heap.size A n c b (w'.alloc (.cells tc 43)) (by rw [htc]; exact heap_alloc_new w' _) (hS.below (hb.alloc hb.size _)) hB
  have HC1 := Lib.hid C1
  have HC2 := Lib.hid C2
  have hsl := Fr.sum_lt b
  generalize Fr.sum b = s at *
  clear C1 C2 htc ht1 hzs hzc hsz hS hB
  go_enter Try.func12, Try.ntmps12
  go_wp2_with fail
  refine HC1.out.mono ?_
  rintro e w1 ⟨rfl, hb1⟩
  go_wp2_with fail
  refine (HC2.out w1 hb1).mono ?_
  rintro e w2 ⟨rfl, rfl⟩
  go_wp2_with fail
  go_ret
  exact ⟨rfl, hb1.alloc hb1.size _⟩
end Fc
end Go.Proofs.Ytahocgmaeokoaaa
