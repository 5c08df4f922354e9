/- What the checksum's functions of package frame do: sum, tail, Sum. What open of package frame does: the frame that bytes begin with; and bytes.Equal. The iterator of package frame: eachFrame hands on the frames that bytes begin with, whatever the loop does with them that keeps the bytes. -/
import Derived.Deep.RegionWith
import Derived.Deep.DeepCutAuto
import Derived.Laws.BytesArg
import Derived.RangeFuncNested
import Derived.RangeFuncBound
import Derived.RangeFuncCalls
import Derived.RangeFuncLeaves
import Derived.Shelf.Abstract
import Derived.Shelf.RegionOpen
import Derived.WalkKit
import Derived.OwnWalkIn
import Derived.TacticsInMore
import Derived.LoopNIn
import Derived.LoopIn
import Derived.Lib.Hide
import Derived.Test.YtaoeipehpakngaaGreatDoorPb31
import Derived.Test.YtaoeipehpakngaaGreatDoorPb09
import Derived.Test.YtaoeipehpakngaaGreatDoorPb05
import Derived.Test.YtaoeipehpakngaaGreatDoorPb24
namespace Go.Proofs.YtaoeipehpakngaaGreatDoor
open Go.RowKit
namespace Fc
def Tb (w : World) (g : Nat) : Prop := Wd.Row w g .u32 85 tab
theorem byt_get {b : List Int} (h : Nm.Byt b) (k : Nat) (hk : k < b.length) : 0 ≤ b.getD k 0 ∧ b.getD k 0 ≤ 255 := h _ (by simp [List.getD, hk])
theorem take_next (l : List Int) (k : Nat) (h : k < l.length) : l.take (k + 1) = l.take k ++ [l.getD k 0] := by
  rw [List.take_succ_eq_append_getElem h]
  simp [List.getD, h]
theorem xor_byte (x : Nat) (c : Int) (h0 : 0 ≤ c) (h1 : c ≤ 255) : bits BinOp.xor IntKind.u8 ((x : Int) % 256) c = ((x % 256 ^^^ c.toNat : Nat) : Int) ∧ x % 256 ^^^ c.toNat < 256 := by
  have e : ((x : Int) % 256) = ((x % 256 : Nat) : Int) := by omega
  refine ⟨?_, Fr.xor_lt (n := 8) (by omega) (by omega)⟩
  rw [e, u8_xor _ _ (by omega) (by omega) h0 (by omega)]
  rfl
set_option maxHeartbeats 1000000 in
theorem sum_any (g : Nat) (A : Option Addr) (n c : Nat) (b : List Int) (w : World) (hT : Tb w g) (hS : Wd.Sl w .u8 A n c b) (hB : Nm.Byt b) :
    Calls Tryz.prog 98 #[.pointer (some ⟨g, 0, none⟩), .slice A n c] w fun e w' => e = .returned (.int .u32 (Fr.sum b)) ∧ w = w' := by
  obtain ⟨hl, hc, hx, hA, hr⟩ := hS
  unfold maxLen at hx
  have Hl := Lib.hid hl
  have HB := Lib.hid hB
  have HT := Lib.hid hT
  clear hl hB hT
  go_enter Tryz.func98, Tryz.ntmps98
  go_wp2
  go_loop [5, 10] (fun r i => ∃ (k x : Nat), i = .int .i64 k ∧ r = .int .u32 x ∧ k ≤ n ∧ x < 4294967296 ∧ Hid (Fr.reg 4294967295 (b.take k) = x)) (fun _ i => n - (intOf i).toNat)
  case atStart => exact ⟨0, 4294967295, rfl, rfl, Nat.zero_le _, by decide, Lib.hid rfl⟩
  case round =>
    obtain ⟨k, x, rfl, rfl, hk, hxl, hR⟩ := hrel
    by_cases hlt : k < n
    · have hlt' : k < b.length := by rw [← Hl.out]; exact hlt
      obtain ⟨B, o, rfl, _, hcell⟩ := hr k hlt'
      obtain ⟨q0, q1⟩ := byt_get HB.out k hlt'
      have hnx := take_next b k hlt'
      obtain ⟨y, hy⟩ : ∃ y, y = b.getD k 0 := ⟨_, rfl⟩
      rw [← hy] at hcell q0 q1 hnx
      obtain ⟨e1, e2⟩ := xor_byte x y q0 q1
      obtain ⟨j, hj⟩ : ∃ j, j = x % 256 ^^^ y.toNat := ⟨_, rfl⟩
      rw [← hj] at e1 e2
      have hct := HT.out.cell j (by rw [tab_len]; exact e2)
      rw [tab_get j e2] at hct
      have Hj := Lib.hid hj
      have Hn := Lib.hid hnx
      have e2' : (j : Int) < 256 := by omega
      clear hy hj hnx
      have hst := Fr.stN_lt 8 (r := j) (by omega)
      have hX : bits BinOp.xor IntKind.u32 ((x : Int) / 256) ((Fr.stN 8 j : Nat) : Int) = ((Fr.bt x y.toNat : Nat) : Int) := by
        have := u32_xor_nat (x / 256) (Fr.stN 8 j) (by omega) (by omega)
        rw [Fr.bt_tab, ← Hj.out, ← this]
        rfl
      have hbt : Fr.bt x y.toNat < 4294967296 := Fr.bt_lt (by omega) (by omega)
      have HX := Lib.hid hX
      clear hX
      go_wp2
      rw [HX.out]
      refine ⟨⟨k + 1, _, by go_num, rfl, by omega, hbt, Lib.hid ?_⟩, by simp [intOf]; omega⟩
      rw [Hn.out, Fr.reg_snoc, hR.out]
    · have hkn : k = b.length := by rw [← Hl.out]; omega
      have hX : bits BinOp.xor IntKind.u32 IntKind.u32.max (x : Int) = ((Fr.sum b : Nat) : Int) := by
        have e1 : IntKind.u32.max = ((4294967295 : Nat) : Int) := by decide
        have h := hR.out
        rw [hkn, List.take_length] at h
        rw [e1, u32_xor_nat _ _ (by decide) hxl, Nat.xor_comm, Fr.sum_xor b HB.out, h]
      have HX := Lib.hid hX
      clear hX hkn
      go_wp2
      go_ret
      exact ⟨congrArg (fun z => Ending.returned (.int .u32 z)) HX.out, rfl⟩
theorem le4_get (s k : Nat) (hk : k < 4) : (Fr.le4 s).getD k 0 = ((s / 256 ^ k % 256 : Nat) : Int) := by
  rcases (show k = 0 ∨ k = 1 ∨ k = 2 ∨ k = 3 by omega) with rfl | rfl | rfl | rfl <;> simp [Fr.le4]
set_option maxHeartbeats 1000000 in
theorem tail_any (g : Nat) (A : Option Addr) (n c : Nat) (b : List Int) (w : World) (hT : Tb w g) (hS : Wd.Sl w .u8 A n c b) (hB : Nm.Byt b) :
    Calls Tryz.prog 51 #[.pointer (some ⟨g, 0, none⟩), .slice A n c] w (Wd.Out w .u8 (Fr.le4 (Fr.sum b))) := by
  have hgl := hT.lt
  have C := Lib.hid fun (w' : World) (hb : Below w.heap.size w w') => sum_any g A n c b w' (hT.below hgl hb) (hS.below hb) hB
  have hsl := Fr.sum_lt b
  generalize Fr.sum b = s at *
  have hmk : ∀ w : World, (Instr.makeSlice 32 (.int .i64 4) (.int .i64 4)).run Tryz.prog w = .ok (.slice (some ⟨w.heap.size, 0, none⟩) 4 4) (w.alloc (.cells #[.int .u8 0, .int .u8 0, .int .u8 0, .int .u8 0] 5)) := fun _ => by kernel_rfl
  clear hT hS hB hgl
  go_enter Tryz.func51, Tryz.ntmps51
  go_upto_region 1 with fail
  go_cut [5, 6] (fun u v wx => u = .slice (some ⟨w.heap.size, 0, none⟩) 4 4 ∧ v = .int .u32 (s : Int) ∧ Wd.Row wx w.heap.size .u8 5 [0, 0, 0, 0] ∧ Below w.heap.size w wx)
  case first =>
    go_region_with (first | (go_at_call 98; refine (C.out _ (by first | exact (Below.refl _ _).drew | exact ((Below.refl _ _).alloc (Nat.le_refl _) _).drew)).mono ?_; rintro e w2 ⟨rfl, rfl⟩))
    all_goals (go_wp2_with fail; go_meet; exact ⟨rfl, rfl, heap_alloc_new w _, ((Below.refl _ _).alloc (Nat.le_refl _) _).drew⟩)
  case rest =>
    obtain ⟨rfl, rfl, hR, hb⟩ := hcut
    have hR0 := (show Wd.Row _ w.heap.size .u8 5 (Wd.fill (Fr.le4 s) 0) from hR)
    clear hR hmk C
    go_wp2_with fail
    go_loopw [6, 14] (fun r i wr => ∃ k : Nat, i = .int .i64 k ∧ k ≤ 4 ∧ r = .int .u32 ((s / 256 ^ k : Nat) : Int) ∧ Wd.Row wr w.heap.size .u8 5 (Wd.fill (Fr.le4 s) k) ∧ Below w.heap.size w wr) (fun _ i _ => 4 - (intOf i).toNat)
    case atStart => exact ⟨0, rfl, Nat.zero_le _, by simp, hR0, hb⟩
    case round =>
      clear hR0 hb
      obtain ⟨k, rfl, hk, rfl, hR, hb⟩ := hrel
      by_cases hlt : k < 4
      · have hfl : (Wd.fill (Fr.le4 s) k).length = 4 := by rw [Wd.fill_len]; rfl
        have cR := hR.cell k (by rw [hfl]; exact hlt)
        have fR := hR.free k
        have hkI : (k : Int) < 4 := by omega
        obtain ⟨y, hy⟩ : ∃ y : Nat, y = s / 256 ^ k := ⟨_, rfl⟩
        have hyl : y < 4294967296 := by
          have := Nat.div_le_self s (256 ^ k)
          omega
        have hnx : y / 256 = s / 256 ^ (k + 1) := by rw [hy, Nat.div_div_eq_div_mul, Nat.pow_succ]
        have hst := Wd.fill_set (Fr.le4 s) k hlt
        rw [le4_get s k hlt, ← hy] at hst
        rw [← hy]
        have Hn := Lib.hid hnx
        have Hs := Lib.hid hst
        clear hy hnx hst hfl
        go_wp2_with fail
        go_roundw
        case rel =>
          refine ⟨k + 1, by go_num, by omega, ?_, ?_, hb.setCell (p := ⟨w.heap.size, k, none⟩) (Nat.le_refl _) _⟩
          · rw [← Hn.out]; rfl
          · have := hR.set k ((y : Int) % 256)
            rw [← Hs.out]
            exact this
        case measure => simp [intOf]; omega
      · have hR4 : Wd.Row wr w.heap.size .u8 5 (Fr.le4 s) := by
          have : Wd.Row wr w.heap.size .u8 5 (Wd.fill (Fr.le4 s) (Fr.le4 s).length) := by
            have e : k = (Fr.le4 s).length := by show k = 4; omega
            rw [← e]; exact hR
          rw [Wd.fill_all] at this
          exact this
        clear hR
        go_wp2_with fail
        go_ret
        exact ⟨_, _, _, rfl, hR4.sl 4 rfl (by simp [maxLen]), hb⟩
end Fc
end Go.Proofs.YtaoeipehpakngaaGreatDoor
namespace Go.Proofs.YtaoeipehpakngaaGreatDoor
set_option maxRecDepth 20000
open Go.RowKit
namespace Fc
open Nc
theorem str_inj : ∀ {xs ys : List Int}, Nm.Byt xs → Nm.Byt ys → xs.map (fun n => UInt8.ofNat n.toNat) = ys.map (fun n => UInt8.ofNat n.toNat) → xs = ys
  | [], [], _, _, _ => rfl
  | [], _ :: _, _, _, h => by simp at h
  | _ :: _, [], _, _, h => by simp at h
  | x :: xs, y :: ys, h1, h2, h => by
    simp only [List.map_cons, List.cons.injEq] at h
    have a1 := h1 x (by simp)
    have a2 := h2 y (by simp)
    have e : x = y := by
      have := congrArg UInt8.toNat h.1
      simp only [UInt8.toNat_ofNat'] at this
      omega
    rw [e, str_inj (fun z hz => h1 z (by simp [hz])) (fun z hz => h2 z (by simp [hz])) h.2]
theorem strOf_eq {xs ys : List Int} (h1 : Nm.Byt xs) (h2 : Nm.Byt ys) : ((strOfNums xs).toList == (strOfNums ys).toList) = decide (xs = ys) := by
  rw [ByteArray.toList_eq, ByteArray.toList_eq, strOfNums_data, strOfNums_data]
  by_cases h : xs = ys
  · subst h; simp
  · rw [decide_eq_false h, beq_eq_false_iff_ne]
    exact fun e => h (str_inj h1 h2 e)
theorem equal_any (A B : Option Addr) (n m c d : Nat) (xs ys : List Int) (w : World) (hA : Wd.Sl w .u8 A n c xs) (hB : Wd.Sl w .u8 B m d ys) (h0 : 0 < n) (h1 : 0 < m) (b1 : Nm.Byt xs) (b2 : Nm.Byt ys) :
    Calls Tryz.prog 162 #[.slice A n c, .slice B m d] w fun e w' => e = .returned (.bool (decide (xs = ys))) ∧ w = w' := by
  have hl := hA.len
  have hl2 := hB.len
  obtain ⟨b1', o1, rfl, _, h1⟩ := hA.rd.some_ (by omega)
  obtain ⟨b2', o2, rfl, _, h2⟩ := hB.rd.some_ (by omega)
  have k1 := run_convert_bytes_arg (P := Tryz.prog) w 32 5 Tryz.underlying32 Tryz.underlying5 b1' o1 n c xs hl.symm (by rw [hl]; exact h1) 9 Tryz.underlying9
  have k2 := run_convert_bytes_arg (P := Tryz.prog) w 32 5 Tryz.underlying32 Tryz.underlying5 b2' o2 m d ys hl2.symm (by rw [hl2]; exact h2) 9 Tryz.underlying9
  have he := strOf_eq b1 b2
  have He := Lib.hid he
  clear he
  generalize strOfNums xs = s at *
  generalize strOfNums ys = t at *
  clear h1 h2 hA hB hl hl2
  rw [← He.out]
  go_enter Tryz.func162, Tryz.ntmps162
  go_wp2_with fail
  go_ret
  exact ⟨rfl, rfl⟩
def OpenOut (A : Option Addr) (n c : Nat) (b : List Int) (w : World) (r : Option (List Int × Nat)) (e : Ending) (w' : World) : Prop :=
  Below w.heap.size w w' ∧ match r with
    | none => e = .returned (.tuple #[.slice none 0 0, .int .i64 0, .bool false])
    | some (p, s) => ∃ A' n' c', e = .returned (.tuple #[.slice A' n' c', .int .i64 (s : Int), .bool true]) ∧ ∀ w0 : World, Wd.Sl w0 .u8 A n c b → Wd.Sl w0 .u8 A' n' c' p
theorem OpenOut.no {A : Option Addr} {n c : Nat} {b : List Int} {w w' : World} (h : Below w.heap.size w w') : OpenOut A n c b w none (.returned (.tuple #[.slice none 0 0, .int .i64 0, .bool false])) w' := ⟨h, rfl⟩
set_option maxHeartbeats 1000000 in
theorem open_any (g : Nat) (A : Option Addr) (n c : Nat) (b : List Int) (w : World) (hT : Tb w g) (hS : Wd.Sl w .u8 A n c b) (hB : Nm.Byt b) (hm : n ≤ 100000000) :
    Calls Tryz.prog 159 #[.pointer (some ⟨g, 0, none⟩), .slice A n c] w (OpenOut A n c b w (Fr.openF b)) := by
  have C1 := getLen_any A n c b w hS hB
  have Hl := Lib.hid hS.len
  have hc := hS.cap
  have hx := hS.max
  unfold maxLen at hx
  unfold Fr.openF
  by_cases h0 : (Nm.getL b).2.2 ≠ 0 ∨ 65536 < (Nm.getL b).1
  · rw [if_pos h0]
    generalize Nm.getL b = q at *
    obtain ⟨v, k, er⟩ := q
    have C := Lib.hid C1
    clear C1
    by_cases h1 : er = 0
    · subst h1
      have h2 : 65536 < v := by simpa using h0
      clear h0
      go_enter Tryz.func159, Tryz.ntmps159
      go_wp2_with fail
      refine C.out.mono ?_
      rintro e w1 ⟨rfl, rfl⟩
      unfold three
      go_wp2_with fail
      go_ret3
      exact OpenOut.no (Below.refl _ _)
    · have hne : (er != 0) = true := by rw [bne_iff_ne]; exact h1
      clear h0
      go_enter Tryz.func159, Tryz.ntmps159
      go_wp2_with fail
      refine C.out.mono ?_
      rintro e w1 ⟨rfl, rfl⟩
      unfold three
      go_wp2_with fail
      go_ret3
      exact OpenOut.no (Below.refl _ _)
  · rw [if_neg h0]
    have hz : (Nm.gv b).2.2 = 0 := by
      refine Classical.byContradiction fun q => h0 (.inl ?_)
      unfold Nm.getL
      rw [if_neg q]
      exact q
    obtain ⟨k, u, hgv, k1, k2, k3, u0, u1, _⟩ := Nm.gv_only b hB hz
    have hu : ¬ 9223372036854775807 < u := by
      intro q
      refine h0 (.inl ?_)
      unfold Nm.getL
      rw [hgv]
      simp only [if_pos q]
      decide
    have hg : Nm.getL b = (u, (k : Int), 0) := by
      unfold Nm.getL
      rw [hgv]
      exact if_neg hu
    rw [hg] at C1 h0 ⊢
    have hu2 : u ≤ 65536 := by simp at h0; exact h0
    obtain ⟨N, rfl⟩ := Int.eq_ofNat_of_zero_le u0
    simp only [Int.toNat_natCast] at *
    have hN : N ≤ 65536 := by omega
    clear h0 hz hg hgv hu u0 u1 hu2
    have C := Lib.hid C1
    clear C1
    by_cases h1 : b.length < k + N + 4
    · rw [if_pos h1]
      have hi : (n : Int) < (k : Int) + (N : Int) + 4 := by have := Hl.out; omega
      go_enter Tryz.func159, Tryz.ntmps159
      go_wp2_with fail
      refine C.out.mono ?_
      rintro e w1 ⟨rfl, rfl⟩
      unfold three
      go_wp2_with fail
      go_ret3
      exact OpenOut.no (Below.refl _ _)
    · rw [if_neg h1]
      have hi : (k : Int) + (N : Int) + 4 ≤ (n : Int) := by have := Hl.out; omega
      have hSp := hS.mid' k (k + N) (by omega) (by omega) (by omega)
      have hSt := hS.mid' (k + N) (k + N + 4) (by omega) (by omega) (by omega)
      rw [show k + N - k = N by omega] at hSp
      rw [show k + N + 4 - (k + N) = 4 by omega] at hSt
      have hBp : Nm.Byt ((b.drop k).take N) := fun x hx => hB x (List.mem_of_mem_drop (List.mem_of_mem_take hx))
      have hBt : Nm.Byt ((b.drop (k + N)).take 4) := fun x hx => hB x (List.mem_of_mem_drop (List.mem_of_mem_take hx))
      have hall : ∀ w0 : World, Wd.Sl w0 .u8 A n c b → Wd.Sl w0 .u8 (A.map (·.add k)) N (c - k) ((b.drop k).take N) := fun w0 h => by
        have := h.mid' k (k + N) (by omega) (by omega) (by omega)
        rwa [show k + N - k = N by omega] at this
      generalize (b.drop k).take N = p at *
      generalize (b.drop (k + N)).take 4 = t at *
      obtain ⟨β, hβ⟩ : ∃ β, β = decide (Fr.le4 (Fr.sum p) = t) := ⟨_, rfl⟩
      have Ct := Lib.hid fun (w' : World) (hb : Below w.heap.size w w') => tail_any g _ N (c - k) p w' (hT.below hT.lt hb) (hSp.below hb) hBp
      have Ce := Lib.hid fun (w' : World) (hb : Below w.heap.size w w') A5 n5 c5 (h5 : Wd.Sl w' .u8 A5 n5 c5 (Fr.le4 (Fr.sum p))) => (by
        have := equal_any A5 _ n5 4 c5 (c - (k + N)) _ _ w' h5 (hSt.below hb) (by rw [h5.len, Fr.le4_len]; decide) (by decide) (Fr.le4_byt _) hBt
        rw [← hβ] at this
        exact this : Calls Tryz.prog 162 _ w' fun e w'' => e = .returned (.bool β) ∧ w' = w'')
      clear hSt hBp hBt hT hB
      have HSp := Lib.hid hall
      have Hb := Lib.hid hβ
      obtain ⟨R, hR⟩ : ∃ R, R = (if Fr.le4 (Fr.sum p) = t then some (p, k + N + 4) else none) := ⟨_, rfl⟩
      rw [← hR]
      have HR := Lib.hid hR
      clear hSp hall hβ hS h1 hR
      go_enter Tryz.func159, Tryz.ntmps159
      go_wp2_with fail
      refine C.out.mono ?_
      rintro e w1 ⟨rfl, rfl⟩
      unfold three
      go_upto_region 9 with fail
      go_cut [12, 46] (fun u s wx => u = .slice (A.map (·.add k)) N (c - k) ∧ s = .bool (!β) ∧ Below w.heap.size w wx)
      case first =>
        go_region_with (first | (go_at_call 51; refine (Ct.out _ ((Below.refl _ _).drew)).mono ?_; rintro e w2 ⟨A5, n5, c5, rfl, hS5, hB5⟩; have hB5' : Below w.heap.size w w2 := Wd.of_drew hB5) | (go_at_call 162; refine (Ce.out _ hB5' A5 n5 c5 hS5).mono ?_; rintro e w3 ⟨rfl, rfl⟩))
        all_goals (go_wp2_with fail; go_meet; exact ⟨by simp, by simp, hB5'⟩)
      case rest =>
        obtain ⟨rfl, rfl, hb⟩ := hcut
        cases β with
        | false =>
          rw [if_neg (of_decide_eq_false Hb.out.symm)] at HR
          obtain rfl := HR.out
          go_wp2_with fail
          go_ret3
          exact OpenOut.no hb
        | true =>
          rw [if_pos (of_decide_eq_true Hb.out.symm)] at HR
          have e1 : ((k : Int) + (N : Int) + 4) = ((k + N + 4 : Nat) : Int) := by omega
          have E1 := Lib.hid e1
          clear e1
          go_wp2_with fail
          go_ret3
          rw [HR.out]
          refine ⟨hb, _, N, _, ?_, HSp.out⟩
          rw [← E1.out]
          rfl
end Fc
end Go.Proofs.YtaoeipehpakngaaGreatDoor
namespace Go.Proofs.YtaoeipehpakngaaGreatDoor
open Go.RowKit Go.Shelf
attribute [local go_sem] Oper.semAt_some
namespace Fc
structure Fx where
  e : Nat
  A : Option Addr
  n : Nat
  c : Nat
  p : List Int
abbrev Fm (w : World) := { x : Fx // Wd.Sl w .u8 x.A x.n x.c x.p ∧ x.n ≤ 65536 ∧ x.e ≤ 100000000 }
def vals {w : World} (l : List (Fm w)) : List (List Int) := l.map (·.1.p)
def lst {w : World} (l : List (Fm w)) : Nat := (l.getLast?.map (·.1.e)).getD 0
theorem vals_snoc {w : World} (l : List (Fm w)) (x : Fm w) : vals (l ++ [x]) = vals l ++ [x.1.p] := by simp [vals]
theorem lst_snoc {w : World} (l : List (Fm w)) (x : Fm w) : lst (l ++ [x]) = x.1.e := by simp [lst]
def encF {w : World} (x : Fm w) : Array Value := #[.int .i64 (x.1.e : Int), .slice x.1.A x.1.n x.1.c]
def KeepF (n b : Nat) (W W' : World) : Prop := Below n W W' ∧ W'.heap[b]? = W.heap[b]? ∧ ∀ g, Tb W g → Tb W' g
theorem KeepF.refl (n b : Nat) (W : World) : KeepF n b W W := ⟨Below.refl _ _, rfl, fun _ h => h⟩
theorem KeepF.trans {n b : Nat} {A B C : World} (h : KeepF n b A B) (k : KeepF n b B C) : KeepF n b A C := ⟨h.1.trans k.1, k.2.1.trans h.2.1, fun g t => k.2.2 g (h.2.2 g t)⟩
theorem grown_below {w w' : World} (h : Below w.heap.size w w') : w.grownBy w' none := ⟨h.os, h.tape, h.output, h.size, fun k hk _ => h.block k hk⟩
theorem KeepF.of_below {n b : Nat} {w w' : World} (h : Below w.heap.size w w') (hn : n ≤ w.heap.size) (hb : b < w.heap.size) : KeepF n b w w' :=
  ⟨h.mono hn, h.block b hb, fun _ t => t.below t.lt h⟩
def AtE {w : World} (b : List Int) (k : Nat) (pre : List (Fm w)) : Prop := Fr.rd b = (vals pre ++ (Fr.rd (b.drop k)).1, k + (Fr.rd (b.drop k)).2) ∧ k = lst pre
theorem atE_zero {w : World} (b : List Int) : AtE (w := w) b 0 [] := ⟨by simp [vals], rfl⟩
theorem atE_next {w : World} {b p : List Int} {k s : Nat} {pre : List (Fm w)} (x : Fm w) (h : AtE b k pre) (ho : Fr.openF (b.drop k) = some (p, s)) (hp : x.1.p = p) (he : x.1.e = k + s) : AtE b (k + s) (pre ++ [x]) := by
  refine ⟨?_, by rw [lst_snoc, he]⟩
  rw [h.1, Fr.rd_some ho, vals_snoc, hp, List.drop_drop, List.append_assoc, List.singleton_append, Nat.add_assoc]
theorem atE_end {w : World} {b : List Int} {k : Nat} {pre : List (Fm w)} (h : AtE b k pre) (ho : Fr.openF (b.drop k) = none) : Fr.rd b = (vals pre, lst pre) := by
  rw [h.1, Fr.rd_none ho, List.append_nil, h.2]
  rfl
set_option maxRecDepth 100000 in
set_option maxHeartbeats 1000000 in
theorem each1_in (n : Nat) (hn : 1 ≤ n) (l Bl n₀ : Nat) (w0 : World) (A : Option Addr) (m c : Nat) (b : List Int) (hB : Nm.Byt b) (hm : m ≤ 1000000) (h0S : Wd.Sl w0 .u8 A m c b) (hn₀ : n₀ = w0.heap.size) (J Jx : List (Fm w0) → World → Prop) (W : World) (hJ : AbidesFrom W.heap.size J)
    (hY : ∀ pre x W, J pre W → pre.length < m → YieldAt Fence.wide (n - 1) Tryz.prog l (encF x) W fun e W' =>
      (e = .returned (.bool true) ∧ J (pre ++ [x]) W' ∧ KeepF n₀ Bl W W') ∨ (e = .returned (.bool false) ∧ Jx (pre ++ [x]) W'))
    (hBx : Wd.Bx W Bl 32 #[.slice A m c]) (hbel : Below n₀ w0 W) (h0 : J [] W) :
    CallsIn Fence.wide n Tryz.prog 158 #[.func (.yield l) #[] #[], .pointer (some ⟨Bl, 0, none⟩)] W fun e W' => (∃ v, e = .returned v) ∧
      ((∃ ys, Fr.rd b = (vals ys, lst ys) ∧ J ys W') ∨ (∃ pre, True ∧ Jx pre W')) := by
  obtain ⟨hz, hsz⟩ := zero_of_info info_eff
  obtain ⟨zc, hzc⟩ : ∃ zc : Array Value, zc = Array.replicate 256 (Value.int .u32 0) := ⟨_, rfl⟩
  rw [← hzc] at hz
  have hzs : zc.size = 256 := by rw [hzc]; exact Array.size_replicate
  have C1 := newEffects_any W
  obtain ⟨tc, htc⟩ : ∃ tc : Array Value, tc = (tab.map (Value.int .u32)).toArray := ⟨_, rfl⟩
  have hts : tc.size = 256 := by rw [htc, List.size_toArray, List.length_map, tab_len]
  have ht1 : tc.all (·.oneCell') = true := by rw [htc]; exact ints_all _ _
  rw [← htc] at C1
  have hsc := fun w : World => run_storeCells_new (P := Tryz.prog) w 85 zc tc (by rw [hsz, hts]) (by rw [hzs, hts]) ht1
  have HC1 := Lib.hid ((callsIn_wide (n := n - 1)).2 C1)
  have Htc := Lib.hid htc
  have H0 := Lib.hid h0S
  have Hn0 := Lib.hid hn₀
  have HB := Lib.hid hB
  have hcap := h0S.cap
  have hmx := h0S.max
  unfold maxLen at hmx
  clear C1 htc ht1 hzs hzc hsz h0S hn₀ hB
  refine callsIn_of_wp Tryz.func158 rfl trivial ?_ rfl
  simp only [Tryz.ntmps158, List.size_toArray, List.length_cons, List.length_nil, Nat.reduceAdd, Nat.reduceSub, Array.replicate_succ, Array.replicate_zero, List.push_toArray, List.append_toArray, List.nil_append, List.cons_append]
  gi_wp2_with (refine ⟨trivial, ?_⟩; gi_at_call 49; refine HC1.out.mono ?_; rintro e w1 ⟨rfl, hb1⟩)
  have hT1 : Tb (w1.alloc (.cells tc 85)) w1.heap.size := by rw [Htc.out]; exact heap_alloc_new w1 _
  have hb2 : Below W.heap.size W (w1.alloc (.cells tc 85)) := hb1.alloc hb1.size _
  have hnW : n₀ ≤ W.heap.size := by rw [Hn0.out]; exact (by have := hbel.size; exact this)
  have hK1 : KeepF n₀ Bl W (w1.alloc (.cells tc 85)) := KeepF.of_below hb2 hnW hBx.lt
  have hJ1 := hJ [] W _ none h0 (grown_below hb2) (fun r e => by cases e)
  generalize w1.alloc (.cells tc 85) = w2 at hT1 hK1 hJ1 ⊢
  generalize w1.heap.size = g at hT1 ⊢
  clear hb2 hz hsc hts hb1 HC1 Htc
  gi_loopw [4] (fun s wr => ∃ (k : Nat) (pre : List (Fm w0)), s = .int .i64 k ∧ k ≤ m ∧ Hid (AtE b k pre) ∧ J pre wr ∧ KeepF n₀ Bl W wr ∧ Tb wr g ∧ pre.length ≤ k) (fun s _ => m - (intOf s).toNat)
  case atStart => exact ⟨0, [], rfl, Nat.zero_le _, Lib.hid (atE_zero b), hJ1, hK1, hT1, Nat.le_refl _⟩
  case round =>
    clear hT1 hK1 hJ1
    obtain ⟨k, pre, rfl, hk, hA, hJs, hK, hT, hpl⟩ := hrel
    have cB : wr.cell? ⟨Bl, 0, none⟩ = some (.slice A m c) := (World.cell?_of_block hK.2.1).trans (hBx.cell 0)
    have hbw : Below w0.heap.size w0 wr := by rw [← Hn0.out]; exact hbel.trans hK.1
    have hSw := (H0.out.below hbw).cut k hk
    have h0c := H0.out.cut k hk
    have hBd : Nm.Byt (b.drop k) := fun x hx => HB.out x (List.mem_of_mem_drop hx)
    have hwn : n₀ ≤ wr.heap.size := Nat.le_trans hnW hK.1.size
    have hbl : Bl < wr.heap.size := by
      have h1 : wr.heap[Bl]? = some _ := hK.2.1.trans hBx
      exact (Array.getElem?_eq_some_iff.1 h1).1
    rcases Nat.lt_or_ge k c with hck | hck
    · rw [if_neg (by omega)] at hSw h0c
      have c2 := (callsIn_wide (n := n - 1)).2 (open_any g _ (m - k) (c - k) (b.drop k) wr hT hSw hBd (by omega))
      obtain ⟨R, hR⟩ : ∃ R, R = Fr.openF (b.drop k) := ⟨_, rfl⟩
      rw [← hR] at c2
      have C2 := Lib.hid c2
      have H0c := Lib.hid h0c
      have HR := Lib.hid hR
      clear hSw h0c hBd c2 hR
      gi_wp2_with (refine ⟨trivial, ?_⟩; gi_at_call 159; refine C2.out.mono ?_)
      rintro e w3 ⟨hb3, hO⟩
      have hJ3 := hJ pre wr w3 none hJs (grown_below hb3) (fun r e => by cases e)
      cases R with
      | none =>
        obtain rfl := hO
        gi_wp2
        refine bodyPost_ret (results_none rfl _ _ _) rfl ?_
        exact ⟨⟨_, rfl⟩, .inl ⟨pre, atE_end hA.out HR.out.symm, hJ3⟩⟩
      | some q =>
        obtain ⟨p, s⟩ := q
        obtain ⟨A', n', c', rfl, hall⟩ := hO
        have hS' := hall w0 H0c.out
        have hle := Fr.openF_le HR.out.symm
        rw [List.length_drop, ← H0.out.len] at hle
        have hx : Wd.Sl w0 .u8 A' n' c' p ∧ n' ≤ 65536 ∧ k + s ≤ 100000000 := ⟨hS', by rw [hS'.len]; omega, by omega⟩
        have hAn := atE_next (⟨⟨k + s, A', n', c', p⟩, hx⟩ : Fm w0) hA.out HR.out.symm rfl rfl
        obtain ⟨fn, tmps, assign, body, hy, hRd⟩ := hY pre ⟨⟨k + s, A', n', c', p⟩, hx⟩ w3 hJ3 (by omega)
        have hks : k + s ≤ m := by omega
        have hs4 : 4 ≤ s := hle.1
        have hK3 := hK.trans (KeepF.of_below hb3 hwn hbl)
        have hT3 : Tb w3 g := hT.below hT.lt hb3
        have eks : ((k + s : Nat) : Int) = (k : Int) + (s : Int) := by omega
        dsimp only [encF] at hy
        rw [eks] at hy
        have HA := Lib.hid hAn
        clear hall hS' hle hAn hJs hJ3 hA C2 H0c HR eks
        gi_wp2
        refine hRd.mono ?_
        rintro e W3 (⟨rfl, hJ4, hk4⟩ | ⟨rfl, hJx4⟩)
        · gi_wp2
          go_roundw
          case rel => exact ⟨k + s, _, by go_num, hks, HA, hJ4, hK3.trans hk4, hk4.2.2 g hT3, by simp; omega⟩
          case measure => simp [intOf]; omega
        · gi_wp2
          refine bodyPost_ret (results_none rfl _ _ _) rfl ?_
          exact ⟨⟨_, rfl⟩, .inr ⟨_, trivial, hJx4⟩⟩
    · have hkm : k = m := by omega
      have hcm : c = m := by omega
      have hbd : b.drop k = [] := List.drop_of_length_le (by rw [← H0.out.len]; omega)
      subst hkm hcm
      rw [if_pos rfl, Nat.sub_self] at hSw
      have c2 := (callsIn_wide (n := n - 1)).2 (open_any g _ 0 0 (b.drop c) wr hT hSw hBd (by omega))
      have hR : Fr.openF (b.drop c) = none := by rw [hbd]; exact Fr.openF_nil
      rw [hR] at c2
      have C2 := Lib.hid c2
      have HR := Lib.hid hR
      clear hSw h0c hBd c2 hR hbd
      gi_wp2_with (refine ⟨trivial, ?_⟩; gi_at_call 159; refine C2.out.mono ?_)
      rintro e w3 ⟨hb3, rfl⟩
      have hJ3 := hJ pre wr w3 none hJs (grown_below hb3) (fun r e => by cases e)
      gi_wp2
      refine bodyPost_ret (results_none rfl _ _ _) rfl ?_
      exact ⟨⟨_, rfl⟩, .inl ⟨pre, atE_end hA.out HR.out, hJ3⟩⟩
end Fc
end Go.Proofs.YtaoeipehpakngaaGreatDoor
