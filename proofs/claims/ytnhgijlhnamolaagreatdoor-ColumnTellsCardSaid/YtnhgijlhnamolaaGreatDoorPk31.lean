/- The bit operations of layer 1 (the fold of signed numbers, digits put together) as plain arithmetic. What the functions of package num that write a length do: putVarint, PutLen; and slices.Clone at []byte. What the functions of package num that write do: zigzag, Put (putVarint, PutLen and slices.Clone: NumPutV). What value.Put does. -/
import Derived.WalkKit
import Derived.WalkSmall
import Derived.WalkSpells
import Derived.Lib.Hide
import Derived.Lib.AppendStr
import Derived.BigRegion
import Derived.Deep.RegionHeld3
import Derived.Deep.RegionWith
import Derived.Deep.DeepCutAuto
import Derived.Test.YtnhgijlhnamolaaGreatDoorPk04
import Derived.Test.YtnhgijlhnamolaaGreatDoorProg
import Derived.Test.YtnhgijlhnamolaaGreatDoorPk02
import Derived.Test.YtnhgijlhnamolaaGreatDoorPk09
import Derived.Test.YtnhgijlhnamolaaGreatDoorPk30
namespace Go.Proofs.YtnhgijlhnamolaaGreatDoor
set_option maxRecDepth 20000
namespace Nm

theorem xor_ones (x : Nat) (h : x < 2 ^ 64) : x ^^^ (2 ^ 64 - 1) = 2 ^ 64 - 1 - x := by
  have e : x ^^^ (2 ^ 64 - 1) = ((BitVec.ofNat 64 x) ^^^ (BitVec.allOnes 64)).toNat := by
    rw [BitVec.toNat_xor, BitVec.toNat_allOnes, BitVec.toNat_ofNat, Nat.mod_eq_of_lt h]
  rw [e, BitVec.xor_allOnes, BitVec.toNat_not, BitVec.toNat_ofNat, Nat.mod_eq_of_lt h]
theorem zig_bits (n : Int) (h1 : -9223372036854775808 ≤ n) (h2 : n ≤ 9223372036854775807) :
    bits BinOp.xor IntKind.u64 (IntKind.u64.wrap (IntKind.u64.wrap n * 2)) (IntKind.u64.wrap (n / 9223372036854775808)) = zz n := by
  simp only [IntKind.wrap_u64]
  unfold zz
  by_cases h : n < 0
  · have e1 : n / 9223372036854775808 % 18446744073709551616 = 18446744073709551615 := by omega
    have e2 : n % 18446744073709551616 * 2 % 18446744073709551616 = 2 * n + 18446744073709551616 := by omega
    rw [if_pos h, e1, e2, u64_xor _ _ (by omega) (by omega) (by omega) (by omega)]
    have e3 : (18446744073709551615 : Int).toNat = 2 ^ 64 - 1 := by decide
    rw [e3, xor_ones _ (by omega)]
    omega
  · have e1 : n / 9223372036854775808 % 18446744073709551616 = 0 := by omega
    have e2 : n % 18446744073709551616 * 2 % 18446744073709551616 = 2 * n := by omega
    rw [if_neg h, e1, e2, u64_xor _ _ (by omega) (by omega) (by omega) (by omega)]
    have e3 : (0 : Int).toNat = 0 := rfl
    rw [e3, Nat.xor_zero]
    omega
theorem unzig_bits (u : Int) (h1 : 0 ≤ u) (h2 : u ≤ 18446744073709551615) :
    bits BinOp.xor IntKind.i64 (u / 2) (RowKit.wrap64 (-RowKit.wrap64 (bits BinOp.and IntKind.u64 u 1))) = unz u := by
  rw [and_one_u64 u h1 h2]
  rw [IntWalk.wrap64_in (u % 2) ⟨by omega, by omega⟩, IntWalk.wrap64_in (-(u % 2)) ⟨by omega, by omega⟩]
  unfold unz
  by_cases h : u % 2 = 1
  · rw [if_pos h, h]
    show IntKind.i64.wrap ((BitVec.ofInt 64 (u / 2) ^^^ BitVec.ofInt 64 (-1)).toNat : Int) = _
    have e1 : BitVec.ofInt 64 (-1) = BitVec.allOnes 64 := by decide
    rw [e1, BitVec.xor_allOnes, BitVec.toNat_not]
    have e2 : (BitVec.ofInt 64 (u / 2)).toNat = (u / 2).toNat := by
      obtain ⟨m, hm⟩ : ∃ m : Nat, u / 2 = (m : Int) := ⟨(u / 2).toNat, by omega⟩
      rw [hm, BitVec.ofInt_natCast, BitVec.toNat_ofNat, Nat.mod_eq_of_lt (by omega)]; rfl
    rw [e2, IntKind.wrap_i64]
    omega
  · rw [if_neg h]
    have h0 : u % 2 = 0 := by omega
    rw [h0]
    show IntKind.i64.wrap ((BitVec.ofInt 64 (u / 2) ^^^ BitVec.ofInt 64 (-0)).toNat : Int) = _
    have e1 : BitVec.ofInt 64 (-0) = 0#64 := by decide
    rw [e1, BitVec.xor_zero]
    have e2 : (BitVec.ofInt 64 (u / 2)).toNat = (u / 2).toNat := by
      obtain ⟨m, hm⟩ : ∃ m : Nat, u / 2 = (m : Int) := ⟨(u / 2).toNat, by omega⟩
      rw [hm, BitVec.ofInt_natCast, BitVec.toNat_ofNat, Nat.mod_eq_of_lt (by omega)]; rfl
    rw [e2, IntKind.wrap_i64]
    omega
/-- A digit that is put over bits that are 0 is added. -/
theorem or_digit (i : Nat) (acc d : Int) (h0 : 0 ≤ acc) (ha : acc < 128 ^ i) (hd : 0 ≤ d) (hb : d * 128 ^ i < 18446744073709551616) (hacc : acc < 18446744073709551616) :
    bits BinOp.or IntKind.u64 acc (d * 128 ^ i) = acc + d * 128 ^ i := by
  obtain ⟨a, rfl⟩ := Int.eq_ofNat_of_zero_le h0
  obtain ⟨c, rfl⟩ := Int.eq_ofNat_of_zero_le hd
  have e : ((128 : Int) ^ i) = ((128 ^ i : Nat) : Int) := by simp
  have e1 : (c : Int) * 128 ^ i = ((c * 128 ^ i : Nat) : Int) := by rw [e]; simp
  rw [e1] at hb ⊢
  rw [e] at ha
  rw [u64_or_nat a (c * 128 ^ i) (by omega) (by omega)]
  have e2 : (128 : Nat) ^ i = 2 ^ (7 * i) := by rw [Nat.pow_mul]
  have := nat_join (7 * i) (c * 128 ^ i) a (by rw [e2]; exact Nat.mul_mod_left _ _) (by rw [← e2]; omega)
  rw [Nat.or_comm, this]
  omega
theorem or_step (k : Nat) (acc x : Int) (hk : k < 9) (h0 : 0 ≤ acc) (ha : acc < 128 ^ k) : bits BinOp.or IntKind.u64 acc (IntKind.u64.wrap (x % 128 * 2 ^ (7 * k))) = acc + x % 128 * 128 ^ k := by
  have e : (2 : Int) ^ (7 * k) = 128 ^ k := by rw [Int.pow_mul]; rfl
  have hp : (0 : Int) < 128 ^ k := Int.pow_pos (by omega)
  have hm : (128 : Int) ^ k ≤ 128 ^ 8 := pow_up (by omega)
  have h8 : (128 : Int) ^ 8 = 72057594037927936 := by decide
  have hle : x % 128 * 128 ^ k ≤ 127 * 128 ^ k := Int.mul_le_mul_of_nonneg_right (by omega) (by omega)
  have hge : 0 ≤ x % 128 * 128 ^ k := Int.mul_nonneg (by omega) (by omega)
  rw [e, IntKind.wrap_u64, Int.emod_eq_of_lt hge (by omega)]
  exact or_digit k acc (x % 128) h0 ha (by omega) (by omega) (by omega)
theorem or_step_lt (k : Nat) (acc x : Int) (ha : acc < 128 ^ k) : acc + x % 128 * 128 ^ k < 128 ^ (k + 1) := by
  have hp : (0 : Int) < 128 ^ k := Int.pow_pos (by omega)
  have hle : x % 128 * 128 ^ k ≤ 127 * 128 ^ k := Int.mul_le_mul_of_nonneg_right (by omega) (by omega)
  rw [Int.pow_succ]; omega
theorem or_step_lo (k : Nat) (acc x : Int) (h0 : 0 ≤ acc) : 0 ≤ acc + x % 128 * 128 ^ k := by
  have hp : (0 : Int) < 128 ^ k := Int.pow_pos (by omega)
  have hge : 0 ≤ x % 128 * 128 ^ k := Int.mul_nonneg (by omega) (by omega)
  omega
theorem or_last (acc : Int) (h0 : 0 ≤ acc) (ha : acc < 128 ^ 9) : bits BinOp.or IntKind.u64 acc (1 * 9223372036854775808) = acc + 1 * 128 ^ 9 := by
  have e : (128 : Int) ^ 9 = 9223372036854775808 := by decide
  have := or_digit 9 acc 1 h0 ha (by omega) (by rw [e]; omega) (by rw [e] at ha; omega)
  rwa [e] at this ⊢
end Nm
end Go.Proofs.YtnhgijlhnamolaaGreatDoor
namespace Go.Proofs.YtnhgijlhnamolaaGreatDoor
set_option maxRecDepth 20000
open Go.RowKit
namespace Nc
theorem info_u8 : (Tryz.prog.info? 5).map (fun i => (i.zero, i.size, i.bytes)) = some (some (.int .u8 0), 1, 1) := by kernel_rfl

/-- What holds at the head of putVarint's rounds. -/
def PvRel (w : World) (all : List Int) (v : Value) (u : Int) (f : Nat) (xs : List Int) (wr : World) : Prop :=
  u < 128 ^ (f + 1) ∧ xs ++ Nm.vdF f u = all ∧ Wd.Dst wr w.heap.size 5 .u8 v xs ∧ Below w.heap.size w wr

set_option maxHeartbeats 400000 in
theorem putVarint_own (A : Option Addr) (c : Nat) (bs : List Int) (u : Int) (w : World) (hb : Wd.Rd w w.heap.size .u8 A bs) (hc : bs.length ≤ c) (hm : bs.length ≤ 10000000) (h0 : 0 ≤ u) (h1 : u ≤ 18446744073709551615) :
    Calls Tryz.prog 48 #[.slice A bs.length c, .int .u64 u] w fun e w' => ∃ v, e = .returned v ∧ w'.ownsRow w.heap.size 5 1 v (bs ++ Nm.vd u).length ((bs ++ Nm.vd u).map (Value.int .u8)) ∧ Below w.heap.size w w' := by
  obtain ⟨i0, hi, hz0, hz1, hz2⟩ := info_parts info_u8
  go_enter Tryz.func48, Tryz.ntmps48
  go_wp2
  go_loopw [0, 1] (fun v i wr => ∃ (u' : Int) (f : Nat) (xs : List Int), i = .int .u64 u' ∧ 0 ≤ u' ∧ u' ≤ 18446744073709551615 ∧ PvRel w (bs ++ Nm.vd u) v u' f xs wr) (fun _ i _ => (intOf i).toNat)
  case atStart => exact ⟨u, 9, bs, rfl, h0, h1, by rw [Nm.pow10]; omega, rfl, .inr ⟨A, rfl, hb⟩, Below.refl _ _⟩
  case round =>
    obtain ⟨u', f, xs, rfl, hu0, hu1, hR⟩ := hrel
    have hR1 := hR.1
    have hR2 := Lib.hid hR.2.1
    have hD := hR.2.2.1
    have hBl := hR.2.2.2
    have hsz := hBl.size
    have hxl : xs.length ≤ 10000010 := by
      have := congrArg List.length hR.2.1
      have h2 := Nm.vd_len u
      simp only [List.length_append] at this
      omega
    clear hR
    by_cases hlt : u' < 128
    · go_wp2_with (at_builtin; refine Wd.wpList_app_dst _ rfl (.tmp 22) (.tmp 25) 23 rfl w.heap.size 5 i0 _ .u8 1 Tryz.underlying23 hi hz0 hz1 hz2 rfl _ xs rfl (hD.alloc hsz _) (wr.heap.size + 1) _ 1 1 [u'] rfl rfl (Wd.Rd.lit wr .u8 [u'] _ _ rfl) (by simp) (by simp; omega) (by simp [maxLen]; omega) (by simp; omega) ?_; intro v' w1 hown hbel)
      go_ret
      refine ⟨v', rfl, ?_, ((hBl.alloc hsz _).trans hbel)⟩
      rw [← hR2.out, Nm.vdF_lo _ _ hlt]
      exact hown
    · have hlt' : 128 ≤ u' := by omega
      go_wp2_with (at_builtin; refine Wd.wpList_app_dst _ rfl (.tmp 13) (.tmp 18) 23 rfl w.heap.size 5 i0 _ .u8 1 Tryz.underlying23 hi hz0 hz1 hz2 rfl _ xs rfl (hD.alloc hsz _) (wr.heap.size + 1) _ 1 1 [u' % 128 + 128] rfl rfl (Wd.Rd.lit wr .u8 [u' % 128 + 128] _ _ rfl) (by simp) (by simp; omega) (by simp [maxLen]; omega) (by simp; omega) ?_; intro v' w1 hown hbel)
      go_roundw
      case rel =>
        cases f with
        | zero => simp at hR1; omega
        | succ f =>
          refine ⟨u' / 128, f, xs ++ [u' % 128 + 128], rfl, by omega, by omega, ?_, ?_, .inl hown, (hBl.alloc hsz _).trans hbel⟩
          · rw [Int.pow_succ] at hR1; omega
          · rw [← hR2.out, Nm.vdF_hi _ _ (by omega)]; simp
      case measure => simp [intOf]; omega
theorem putVarint_any (A : Option Addr) (n c : Nat) (bs : List Int) (u : Int) (w : World) (hb : Wd.Sl w .u8 A n c bs) (hm : n ≤ 10000000) (h0 : 0 ≤ u) (h1 : u ≤ 18446744073709551615) :
    Calls Tryz.prog 48 #[.slice A n c, .int .u64 u] w (Wd.Out w .u8 (bs ++ Nm.vd u)) := by
  obtain ⟨rfl, hc, _, _, hr⟩ := hb
  exact (putVarint_own A c bs u w hr hc hm h0 h1).mono fun _ _ ⟨_, he, ho, hb⟩ => he ▸ Wd.Out.of_own ho hb

theorem clone_any (A : Option Addr) (m c : Nat) (bs : List Int) (w : World) (hb : Wd.Sl w .u8 A m c bs) (hm : m ≤ 10000000) :
    Calls Tryz.prog 47 #[.slice A m c] w (Wd.Out w .u8 bs) := by
  obtain ⟨i0, hi, hz0, hz1, hz2⟩ := info_parts info_u8
  obtain ⟨rfl, hc, hx, hA, hr⟩ := hb
  rcases A with _ | ad
  · obtain rfl := hA rfl
    obtain rfl := hr.none_
    have hnil : ∀ (w : World) (n c : Nat), (binOp .eql 23 (.slice none n c) (.slice none 0 0)).run Tryz.prog w = .ok (.bool true) w := fun _ _ _ => by kernel_rfl
    go_enter Tryz.func47, Tryz.ntmps47
    go_wp2
    go_ret
    exact ⟨none, 0, 0, rfl, Wd.Sl.none_ _ _, Below.refl _ _⟩
  · have hnil : ∀ (w : World) (n c : Nat) , (binOp .eql 23 (.slice (some ad) n c) (.slice none 0 0)).run Tryz.prog w = .ok (.bool false) w := fun _ _ _ => by kernel_rfl
    go_enter Tryz.func47, Tryz.ntmps47
    go_wp2_with (at_builtin; refine Wd.wpList_app _ rfl (.tmp 5) (.tmp 6) 23 rfl w.heap.size 5 i0 _ .u8 1 Tryz.underlying23 hi hz0 hz1 hz2 rfl (.slice (some ⟨w.heap.size, 0, none⟩) 0 0) [] rfl (World.ownsRow_lit w #[] 0 (Nat.le_refl _) (by simp [maxLen]) rfl) w.heap.size _ _ c bs rfl rfl (by simp) (hr.below ((Below.refl _ _).alloc (Nat.le_refl _) _)) (by simp; omega) (by simp [maxLen]; omega) (by simp) ?_; intro v' w1 hown hbel)
    go_ret
    refine Wd.Out.of_own (by simpa using hown) (((Below.refl _ _).alloc (Nat.le_refl _) _).grown hbel (by simp) (by simp [Value.ownBlock]))

theorem putLen_any (A : Option Addr) (m c : Nat) (bs : List Int) (n : Int) (w : World) (hb : Wd.Sl w .u8 A m c bs) (hm : m ≤ 10000000) (h0 : -9223372036854775808 ≤ n) (h1 : n ≤ 9223372036854775807) :
    Calls Tryz.prog 29 #[.slice A m c, .int .i64 n] w (Wd.Out w .u8 (bs ++ if n < 0 then [] else Nm.vd n)) := by
  by_cases hn : n < 0
  · rw [if_pos hn, List.append_nil]
    go_enter Tryz.func29, Tryz.ntmps29
    go_wp2_with fail
    refine (clone_any A m c bs w hb hm).mono ?_
    rintro e w' ⟨A', m', c', rfl, hO⟩
    go_wp2_with fail
    go_ret
    exact ⟨A', m', c', rfl, hO⟩
  · rw [if_neg hn]
    have hn' : 0 ≤ n := by omega
    go_enter Tryz.func29, Tryz.ntmps29
    go_wp2_with fail
    refine (putVarint_any A m c bs n w hb hm (by omega) (by omega)).mono ?_
    rintro e w' ⟨A', m', c', rfl, hO⟩
    go_wp2_with fail
    go_ret
    exact ⟨A', m', c', rfl, hO⟩
/-- PutLen behind no bytes, with whose memory it is. -/
theorem putLen0_own (n : Int) (w : World) (h0 : 0 ≤ n) (h1 : n ≤ 9223372036854775807) :
    Calls Tryz.prog 29 #[.slice none 0 0, .int .i64 n] w fun e w' => ∃ v, e = .returned v ∧ w'.ownsRow w.heap.size 5 1 v (Nm.vd n).length ((Nm.vd n).map (Value.int .u8)) ∧ Below w.heap.size w w' := by
  have hc := putVarint_own none 0 [] n w Wd.Rd.nil (by simp) (by simp) h0 (by omega)
  rw [List.nil_append] at hc
  have Hc := Lib.hid hc
  clear hc
  go_enter Tryz.func29, Tryz.ntmps29
  go_wp2_with fail
  refine Hc.out.mono ?_
  rintro e w1 ⟨v, rfl, hO⟩
  go_wp2_with fail
  go_ret
  exact ⟨v, rfl, hO⟩
end Nc
end Go.Proofs.YtnhgijlhnamolaaGreatDoor
namespace Go.Proofs.YtnhgijlhnamolaaGreatDoor
set_option maxRecDepth 20000
open Go.RowKit
namespace Nc
theorem zigzag_any (n : Int) (w : World) (h1 : -9223372036854775808 ≤ n) (h2 : n ≤ 9223372036854775807) :
    Calls Tryz.prog 72 #[.int .i64 n] w fun e w' => e = .returned (.int .u64 (Nm.zz n)) ∧ w = w' := by
  go_enter Tryz.func72, Tryz.ntmps72
  go_wp2
  go_ret
  exact ⟨congrArg (fun x => Ending.returned (.int .u64 x)) (Nm.zig_bits n h1 h2), rfl⟩

theorem put_any (A : Option Addr) (m c : Nat) (bs : List Int) (n : Int) (w : World) (hb : Wd.Sl w .u8 A m c bs) (hm : m ≤ 10000000) (h0 : -9223372036854775808 ≤ n) (h1 : n ≤ 9223372036854775807) :
    Calls Tryz.prog 50 #[.slice A m c, .int .i64 n] w (Wd.Out w .u8 (bs ++ Nm.vd (Nm.zz n))) := by
  have hz0 := Nm.zz_lo n
  have hz1 := Nm.zz_hi n h0 h1
  go_enter Tryz.func50, Tryz.ntmps50
  go_wp2_with fail
  refine (zigzag_any n w h0 h1).mono ?_
  rintro e w' ⟨rfl, rfl⟩
  go_wp2_with fail
  refine (putVarint_any A m c bs (Nm.zz n) w hb hm hz0 hz1).mono ?_
  rintro e w' ⟨A', m', c', rfl, hO⟩
  go_wp2_with fail
  go_ret
  exact ⟨A', m', c', rfl, hO⟩

end Nc
end Go.Proofs.YtnhgijlhnamolaaGreatDoor
namespace Go.Proofs.YtnhgijlhnamolaaGreatDoor
set_option maxRecDepth 20000
open Go.RowKit
namespace Vc
open Va Nc
theorem strCells_byts (s : ByteArray) : Lib.strCells s = (byts s).map (Value.int .u8) := by
  unfold Lib.strCells byts
  rw [List.map_map]
  rfl
/-- append(b, s...) of a text as one step of a region that draws. -/
theorem step_app_str {P : Program} (w : World) {ops : Array Oper} {o : Oper} {a : Act} {K : Act → World → Prop} {Q : Exit → Act → World → Prop} {E : Prop} (hgd : o.guard = none) (sl x : Operand) (t u : TypeId)
    (ho : o.op = .call { callee := .builtin .append, args := #[sl, x], argTypes := #[t, u] })
    (B : Nat) (e : TypeId) (i : TypeInfo) (ht : P.underlying t = some (.slice e)) (hu : P.underlying u = some .string) (hi : P.info? e = some i) (hz : i.zero = some (.int .u8 0))
    (hsize : i.size = 1) (hby : i.bytes = 1)
    (v : Value) (xs : List Int) (hs : a.eval sl = v) (hown : w.ownsRow B e 1 v xs.length (xs.map (Value.int .u8))) (s : ByteArray) (hx : a.eval x = .string s)
    (h63 : xs.length + s.size ≤ maxLen) (hbytes : xs.length + s.size ≤ 140737488355328) (hB : B ≤ w.heap.size)
    (h : ∀ v' w', w'.ownsRow B e 1 v' (xs ++ byts s).length ((xs ++ byts s).map (Value.int .u8)) → w.grownBy w' v.ownBlock → K (a.put o.dst v') w') : if Region.wanted o (yielded ops a.tmps) = true then Oper.wp P o a w K Q else E := by
  rw [if_pos (by simp [Region.wanted, hgd])]
  obtain ⟨v', w', hrun, h2, h3, _⟩ := Lib.run_append_own_string (P := P) w B t u o.type e i ht hu hi hz hsize hby v xs.length _ hown s h63 hbytes hB
  rw [strCells_byts, ← List.map_append] at h2
  unfold Oper.wp
  simp [execOp, ho, resolve, invoke, builtin, hs, hx, hrun, Result.andThen]
  refine h v' w' ?_ h3
  rw [List.length_append, byts_len]
  exact h2
theorem putLen_own (A : Option Addr) (m c : Nat) (bs : List Int) (n : Int) (w : World) (hb : Wd.Sl w .u8 A m c bs) (hm : m ≤ 10000000) (h0 : 0 ≤ n) (h1 : n ≤ 9223372036854775807) :
    Calls Tryz.prog 29 #[.slice A m c, .int .i64 n] w fun e w' => ∃ v, e = .returned v ∧ w'.ownsRow w.heap.size 5 1 v (bs ++ Nm.vd n).length ((bs ++ Nm.vd n).map (Value.int .u8)) ∧ Below w.heap.size w w' := by
  obtain ⟨rfl, hc, _, _, hr⟩ := hb
  go_enter Tryz.func29, Tryz.ntmps29
  go_wp2_with fail
  refine (putVarint_own A c bs n w hr hc hm (by omega) (by omega)).mono ?_
  rintro e w' ⟨v, rfl, hO⟩
  go_wp2_with fail
  go_ret
  exact ⟨v, rfl, hO⟩
theorem clone_own (A : Option Addr) (m c : Nat) (bs : List Int) (w : World) (hb : Wd.Sl w .u8 A m c bs) (hm : m ≤ 10000000) :
    Calls Tryz.prog 47 #[.slice A m c] w fun e w' => ∃ v, e = .returned v ∧ w'.ownsRow w.heap.size 5 1 v bs.length (bs.map (Value.int .u8)) ∧ Below w.heap.size w w' := by
  obtain ⟨i0, hi, hz0, hz1, hz2⟩ := info_parts info_u8
  obtain ⟨rfl, hc, hx, hA, hr⟩ := hb
  rcases A with _ | ad
  · obtain rfl := hA rfl
    obtain rfl := hr.none_
    have hnil : ∀ (w : World) (n c : Nat), (binOp .eql 23 (.slice none n c) (.slice none 0 0)).run Tryz.prog w = .ok (.bool true) w := fun _ _ _ => by kernel_rfl
    go_enter Tryz.func47, Tryz.ntmps47
    go_wp2
    go_ret
    exact ⟨_, rfl, World.ownsRow_nil _ _ _ _, Below.refl _ _⟩
  · have hnil : ∀ (w : World) (n c : Nat) , (binOp .eql 23 (.slice (some ad) n c) (.slice none 0 0)).run Tryz.prog w = .ok (.bool false) w := fun _ _ _ => by kernel_rfl
    go_enter Tryz.func47, Tryz.ntmps47
    go_wp2_with (at_builtin; refine Wd.wpList_app _ rfl (.tmp 5) (.tmp 6) 23 rfl w.heap.size 5 i0 _ .u8 1 Tryz.underlying23 hi hz0 hz1 hz2 rfl (.slice (some ⟨w.heap.size, 0, none⟩) 0 0) [] rfl (World.ownsRow_lit w #[] 0 (Nat.le_refl _) (by simp [maxLen]) rfl) w.heap.size _ _ c bs rfl rfl (by simp) (hr.below ((Below.refl _ _).alloc (Nat.le_refl _) _)) (by simp; omega) (by simp [maxLen]; omega) (by simp) ?_; intro v' w1 hown hbel)
    go_ret
    exact ⟨v', rfl, by simpa using hown, ((Below.refl _ _).alloc (Nat.le_refl _) _).grown hbel (by simp) (by simp [Value.ownBlock])⟩
/-- What Put answers. -/
def putE (k i : Int) (s : ByteArray) (b : Bool) : Int := if mayB k i s b then 0 else 1
def putL (bs : List Int) (k i : Int) (s : ByteArray) (b : Bool) : List Int := if mayB k i s b then bs ++ Va.put ⟨k, i, s, b⟩ else []

set_option maxHeartbeats 2000000 in
theorem Put_any (A : Option Addr) (n c : Nat) (bs : List Int) (k i : Int) (s : ByteArray) (b : Bool) (w : World) (hS : Wd.Sl w .u8 A n c bs) (hm : n ≤ 1000000) (h0 : -9223372036854775808 ≤ i) (h1 : i ≤ 9223372036854775807) :
    Calls Tryz.prog 30 #[.slice A n c, .agg #[.int .i64 k, .int .i64 i, .string s, .bool b]] w (Wd.Out2 w .u8 (putL bs k i s b) (putE k i s b)) := by
  obtain ⟨i0, hi, hz0, hz1, hz2⟩ := info_parts info_u8
  have hb0 := (Below.refl w.heap.size w).alloc (Nat.le_refl _) (.cells #[.int .i64 k, .int .i64 i, .string s, .bool b] 34)
  have v0 : Vb (w.alloc (.cells #[.int .i64 k, .int .i64 i, .string s, .bool b] 34)) w.heap.size k i s b := Wd.Bx.new w _ _
  have Cm := Lib.hid fun w => may_any k i s b w
  cases hmay : mayB k i s b
  case false =>
    unfold putL putE
    rw [hmay] at Cm ⊢
    clear hmay
    go_enter Tryz.func30, Tryz.ntmps30
    go_wp2_with fail
    refine (Cm.out _).mono ?_
    rintro e w2 ⟨rfl, hB2⟩
    go_wp2_with fail
    go_ret2
    exact Wd.Out2.err _ _ _ _ (hb0.trans (hB2.mono hb0.size))
  case true =>
    have hM := (mayB_iff k i s b).1 hmay
    rw [hmay] at Cm
    have he : putE k i s b = 0 := by unfold putE; rw [hmay]; rfl
    have hl : putL bs k i s b = bs ++ Va.put ⟨k, i, s, b⟩ := by unfold putL; rw [hmay]; rfl
    rw [he, hl]
    clear he hl hmay
    unfold May at hM
    simp only [] at hM
    rcases hM with ⟨rfl, rfl, rfl, rfl⟩ | ⟨rfl, rfl, rfl⟩ | ⟨rfl, rfl, hs, rfl⟩ | ⟨rfl, rfl, rfl⟩
    · rw [show bs ++ Va.put ⟨0, 0, ⟨#[]⟩, false⟩ = bs by simp [Va.put]]
      go_enter Tryz.func30, Tryz.ntmps30
      go_wp2_with fail
      refine (Cm.out _).mono ?_
      rintro e w2 ⟨rfl, hB2⟩
      have hb2 := hb0.trans (hB2.mono hb0.size)
      obtain ⟨⟨u0, u1, u2, u3⟩, -⟩ := four (v0.below (Wd.Bx.lt v0) hB2)
      go_wp2_with fail
      refine (clone_any A n c bs w2 (hS.below hb2) (by omega)).mono ?_
      rintro e w3 ⟨A3, n3, c3, rfl, hS3, hB3⟩
      go_wp2_with fail
      go_ret2
      exact ⟨A3, n3, c3, rfl, hS3, hb2.trans (hB3.mono hb2.size)⟩
    · rw [show bs ++ Va.put ⟨1, i, ⟨#[]⟩, false⟩ = bs ++ Nm.vd (Nm.zz i) by simp [Va.put]]
      go_enter Tryz.func30, Tryz.ntmps30
      go_wp2_with fail
      refine (Cm.out _).mono ?_
      rintro e w2 ⟨rfl, hB2⟩
      have hb2 := hb0.trans (hB2.mono hb0.size)
      obtain ⟨⟨u0, u1, u2, u3⟩, -⟩ := four (v0.below (Wd.Bx.lt v0) hB2)
      go_wp2_with fail
      refine (put_any A n c bs i w2 (hS.below hb2) (by omega) h0 h1).mono ?_
      rintro e w3 ⟨A3, n3, c3, rfl, hS3, hB3⟩
      go_wp2_with fail
      go_ret2
      exact ⟨A3, n3, c3, rfl, hS3, hb2.trans (hB3.mono hb2.size)⟩
    · rw [show bs ++ Va.put ⟨2, 0, s, false⟩ = (bs ++ Nm.vd (s.size : Int)) ++ byts s by simp [Va.put]]
      have hvl := Nm.vd_len (s.size : Int)
      have Hn := Lib.hid hS.len
      have Hp := Lib.hid fun w' (hb : Below w.heap.size w w') => putLen_own A n c bs (s.size : Int) w' (hS.below hb) (by omega) (by omega) (by omega)
      have HS := Lib.hid hS
      have hl8 : (bs ++ Nm.vd (s.size : Int)).length ≤ 1000010 := by rw [List.length_append, ← Hn.out]; omega
      obtain ⟨vs, hvs⟩ : ∃ vs, vs = bs ++ Nm.vd (s.size : Int) := ⟨_, rfl⟩
      rw [← hvs] at Hp hl8 ⊢
      clear hS hvs hvl Hn
      go_enter Tryz.func30, Tryz.ntmps30
      go_wp2_with fail
      refine (Cm.out _).mono ?_
      rintro e w2 ⟨rfl, hB2⟩
      have hb2 := hb0.trans (hB2.mono hb0.size)
      have v2 := v0.below (Wd.Bx.lt v0) hB2
      have hl2 := Wd.Bx.lt v2
      obtain ⟨⟨u0, u1, u2, u3⟩, -⟩ := four v2
      have Hv2 := Lib.hid v2
      have Hb2 := Lib.hid hb2
      clear v0 v2 hb0 hB2 Cm hb2
      go_upto_region 7 with fail
      go_region_held3 (fun w' => w'.cell? ⟨w.heap.size, 2, none⟩ = some (.string s)) (first | exact hc4 | exact hc3 | go_keep) (first | (refine step_app_str _ rfl (.tmp 23) (.tmp 25) 23 9 rfl w2.heap.size 5 i0 Tryz.underlying23 Tryz.underlying9 hi hz0 hz1 hz2 v3 vs rfl hO3 s rfl (by unfold maxLen; omega) (by omega) hb3.size ?_; intro v4 w4 hO4 hg4; have hb4 : Below w2.heap.size w2 w4 := hb3.grown hg4 hb3.size fun g hg => (hO3.lt g hg).1; have hc4 := (hb4.cell (p := ⟨w.heap.size, 2, none⟩) hl2).trans u2) | (go_at_call 29; (with_reducible refine (Hp.out _ (Hb2.out.drew)).mono ?_); rintro e w3 ⟨v3, rfl, hO3, hB3⟩; have hb3 : Below w2.heap.size w2 w3 := Wd.of_drew hB3; have hc3 := (hb3.cell (p := ⟨w.heap.size, 2, none⟩) hl2).trans u2))
      go_wp2_with fail
      go_ret2
      obtain ⟨A4, n4, c4, rfl, hS4⟩ := Wd.Sl.of_own hO4
      exact ⟨A4, n4, c4, rfl, hS4, Hb2.out.trans (hb4.mono Hb2.out.size)⟩
    · rw [show bs ++ Va.put ⟨3, 0, ⟨#[]⟩, b⟩ = bs ++ [dg b] by simp [Va.put, dg]]
      have Hn := Lib.hid hS.len
      have Hp := Lib.hid fun w' (hb : Below w.heap.size w w') => clone_own A n c bs w' (hS.below hb) (by omega)
      have hl8 : bs.length ≤ 1000000 := by rw [← Hn.out]; omega
      have Cd := Lib.hid fun w => digit_any b w
      obtain ⟨d, hd⟩ : ∃ d, d = dg b := ⟨_, rfl⟩
      rw [← hd] at Cd ⊢
      clear hS Hn hd
      go_enter Tryz.func30, Tryz.ntmps30
      go_wp2_with fail
      refine (Cm.out _).mono ?_
      rintro e w2 ⟨rfl, hB2⟩
      have hb2 := hb0.trans (hB2.mono hb0.size)
      have v2 := v0.below (Wd.Bx.lt v0) hB2
      have hl2 := Wd.Bx.lt v2
      obtain ⟨⟨u0, u1, u2, u3⟩, -⟩ := four v2
      have Hv2 := Lib.hid v2
      have Hb2 := Lib.hid hb2
      clear v0 v2 hb0 hB2 Cm hb2
      go_upto_region 9 with fail
      go_region_held3 (fun w' => w'.cell? ⟨w.heap.size, 3, none⟩ = some (.bool b)) (first | exact hc4 | exact hc3 | go_keep) (first | (refine Wd.step_app _ rfl (.tmp 30) (.tmp 34) 23 rfl w2.heap.size 5 i0 _ .u8 1 Tryz.underlying23 hi hz0 hz1 hz2 rfl v3 bs rfl (Wd.own_below hO3 ((Below.refl _ _).alloc (Nat.le_refl _) (.cells #[.int .u8 d] 5))) (w3.heap.size + 1) (some ⟨w3.heap.size, 0, none⟩) 1 1 [d] (by rfl) rfl (by simp) (Wd.Rd.lit w3 .u8 [d] 5 #[.int .u8 d] rfl) (by simp; omega) (by unfold maxLen; simp; omega) (by simp; omega) ?_; intro v4 w4 hO4 hg4; have hb4 : Below w2.heap.size w2 w4 := (hb3.alloc hb3.size (.cells #[.int .u8 d] 5)).grown hg4 (by simp; omega) fun g hg => (hO3.lt g hg).1; have hc4 := (hb4.cell (p := ⟨w.heap.size, 3, none⟩) hl2).trans u3) | (go_at_call 51; (with_reducible refine (Cd.out _).mono ?_); rintro e w5 ⟨rfl, hw5⟩; have hq5 := hw5.symm; clear hw5; subst hq5) | (go_at_call 47; (with_reducible refine (Hp.out _ (Hb2.out.drew)).mono ?_); rintro e w3 ⟨v3, rfl, hO3, hB3⟩; have hb3 : Below w2.heap.size w2 w3 := Wd.of_drew hB3; have hsz3 := hb3.size; have hc3 := (hb3.cell (p := ⟨w.heap.size, 3, none⟩) hl2).trans u3))
      go_wp2_with fail
      go_ret2
      obtain ⟨A4, n4, c4, rfl, hS4⟩ := Wd.Sl.of_own hO4
      exact ⟨A4, n4, c4, rfl, hS4, Hb2.out.trans (hb4.mono Hb2.out.size)⟩
end Vc
end Go.Proofs.YtnhgijlhnamolaaGreatDoor
