/- What the functions of package runs over lists of integers do: Deltas, Sums, putPlain, putDeltas, appendRun. -/
import Derived.Test.YtejhnmahmnbmkaaProg
import Derived.Test.YtejhnmahmnbmkaaRunWords
import Derived.Test.YtejhnmahmnbmkaaNumPut
import Derived.WalkKit
import Derived.WalkSpells
import Derived.Lib.Hide
namespace Go.Proofs.Ytejhnmahmnbmkaa
open Go.RowKit
namespace Rc
open Nc
theorem info_int : (Try.prog.info? 3).map (fun i => (i.zero, i.size, i.bytes)) = some (some (.int .i64 0), 1, 8) := by kernel_rfl

/-- Deltas and Sums at the head of a round: the last number, and what is filled. -/
def FillI (w : World) (d : List Int) (k : Nat) (wr : World) : Prop := Wd.Row wr w.heap.size .i64 3 (Wd.fill d k) ∧ Below w.heap.size w wr
theorem FillI.step {w wr : World} {d : List Int} {k : Nat} (h : FillI w d k wr) (hk : k < d.length) : FillI w d (k + 1) (wr.setCell ⟨w.heap.size, k, none⟩ (.int .i64 (d.getD k 0))) :=
  ⟨by rw [← Wd.fill_set d k hk]; exact h.1.set k _, h.2.setCell (Nat.le_refl _) _⟩

set_option maxHeartbeats 400000 in
theorem deltas_any (A : Option Addr) (m c : Nat) (l : List Int) (w : World) (hS : Wd.Sl w .i64 A m c l) (hm : m ≤ 1000000) :
    Calls Try.prog 16 #[.slice A m c] w (Wd.Out w .i64 (Rn.deltas l)) := by
  obtain ⟨i0, hi, hz0, hz1, hz2⟩ := info_parts info_int
  have hl := hS.len
  have hdl := Rn.deltas_len l
  have Hd := Lib.hid (Rn.deltas_get l)
  generalize Rn.deltas l = d at *
  have Hdl := Lib.hid hdl
  have Hl := Lib.hid hl
  have hcap := hS.cap
  clear hl hdl
  go_enter Try.func16, Try.ntmps16
  go_wp2_with (at_make; refine wpList_make_full _ rfl (.tmp 8) (.tmp 8) 22 rfl w.heap.size 3 i0 _ 1 Try.underlying22 hi hz0 hz1 .i64 .i64 m m m rfl rfl rfl rfl (by rw [hz2]; omega) (by unfold maxLen; omega) (Nat.le_refl _) ?_; intro w3 hown hgrow)
  have hb3 := (Below.refl w.heap.size w).grown hgrow (Nat.le_refl _) (by simp)
  rw [Wd.made_zero] at hown
  have hR := (Wd.Row.of_own hown).1
  have hI3 : FillI w d 0 w3 := ⟨by rw [Wd.fill_zero, Hdl.out, ← Hl.out]; exact hR, hb3⟩
  clear hown hgrow hb3 hR
  go_loopw [4, 12] (fun b i wr => ∃ k : Nat, i = .int .i64 k ∧ k ≤ m ∧ b = .int .i64 (Rn.prev l k) ∧ FillI w d k wr) (fun _ i _ => m - (intOf i).toNat)
  case atStart => exact ⟨0, rfl, Nat.zero_le _, rfl, hI3⟩
  case round =>
    clear hI3
    obtain ⟨k, rfl, hk, rfl, hI⟩ := hrel
    by_cases hlt : k < m
    · have hkd : k < d.length := by rw [Hdl.out, ← Hl.out]; exact hlt
      obtain ⟨b, o, rfl, hbB, hcell0⟩ := hS.rd k (by rw [← Hl.out]; exact hlt)
      have hcell := (hI.2.cell (p := ⟨b, o + k, none⟩) hbB).trans hcell0
      have hst := hI.step hkd
      rw [Hd.out k (by rw [← Hl.out]; exact hlt)] at hst
      have cg := hI.1.cell k (by rw [Wd.fill_len]; exact hkd)
      have cf := hI.1.free k
      obtain ⟨p, hp⟩ : ∃ p, p = Rn.prev l k := ⟨_, rfl⟩
      obtain ⟨x, hx⟩ : ∃ x, x = l.getD k 0 := ⟨_, rfl⟩
      have hpx : Rn.prev l (k + 1) = x := by rw [hx]; unfold Rn.prev; rw [if_neg (by omega)]; rfl
      rw [← hp, ← hx, Wd.wr64] at hst
      rw [← hx] at hcell
      rw [← hp]
      have Hst := Lib.hid hst
      have Hp := Lib.hid hpx
      clear hcell0 hst hp hx hpx
      go_wp2_with fail
      go_roundw
      case rel => exact ⟨k + 1, by go_num, by omega, by rw [Hp.out], Hst.out⟩
      case measure => simp [intOf]; omega
    · go_wp2_with fail
      go_ret
      obtain rfl : k = m := by omega
      have e : k = d.length := by rw [Hdl.out]; exact Hl.out
      have h1 := hI.1
      rw [e, Wd.fill_all] at h1
      exact ⟨_, _, _, rfl, h1.sl k e (by unfold maxLen; omega), hI.2⟩

set_option maxHeartbeats 400000 in
theorem sums_any (A : Option Addr) (m c : Nat) (l : List Int) (w : World) (hS : Wd.Sl w .i64 A m c l) (hm : m ≤ 1000000) :
    Calls Try.prog 18 #[.slice A m c] w (Wd.Out w .i64 (Rn.sums l)) := by
  obtain ⟨i0, hi, hz0, hz1, hz2⟩ := info_parts info_int
  have hl := hS.len
  have hdl := Rn.sums_len l
  have Hd := Lib.hid (Rn.sums_get l)
  generalize Rn.sums l = d at *
  have Hdl := Lib.hid hdl
  have Hl := Lib.hid hl
  have hcap := hS.cap
  clear hl hdl
  go_enter Try.func18, Try.ntmps18
  go_wp2_with (at_make; refine wpList_make_full _ rfl (.tmp 8) (.tmp 8) 22 rfl w.heap.size 3 i0 _ 1 Try.underlying22 hi hz0 hz1 .i64 .i64 m m m rfl rfl rfl rfl (by rw [hz2]; omega) (by unfold maxLen; omega) (Nat.le_refl _) ?_; intro w3 hown hgrow)
  have hb3 := (Below.refl w.heap.size w).grown hgrow (Nat.le_refl _) (by simp)
  rw [Wd.made_zero] at hown
  have hR := (Wd.Row.of_own hown).1
  have hI3 : FillI w d 0 w3 := ⟨by rw [Wd.fill_zero, Hdl.out, ← Hl.out]; exact hR, hb3⟩
  clear hown hgrow hb3 hR
  go_loopw [4, 12] (fun b i wr => ∃ k : Nat, i = .int .i64 k ∧ k ≤ m ∧ b = .int .i64 (Rn.prev d k) ∧ FillI w d k wr) (fun _ i _ => m - (intOf i).toNat)
  case atStart => exact ⟨0, rfl, Nat.zero_le _, rfl, hI3⟩
  case round =>
    clear hI3
    obtain ⟨k, rfl, hk, rfl, hI⟩ := hrel
    by_cases hlt : k < m
    · have hkd : k < d.length := by rw [Hdl.out, ← Hl.out]; exact hlt
      obtain ⟨b, o, rfl, hbB, hcell0⟩ := hS.rd k (by rw [← Hl.out]; exact hlt)
      have hcell := (hI.2.cell (p := ⟨b, o + k, none⟩) hbB).trans hcell0
      have hst := hI.step hkd
      have hd := Hd.out k (by rw [← Hl.out]; exact hlt)
      have cg := hI.1.cell k (by rw [Wd.fill_len]; exact hkd)
      have cf := hI.1.free k
      obtain ⟨p, hp⟩ : ∃ p, p = Rn.prev d k := ⟨_, rfl⟩
      obtain ⟨x, hx⟩ : ∃ x, x = l.getD k 0 := ⟨_, rfl⟩
      have hpx : Rn.prev d (k + 1) = d.getD k 0 := by unfold Rn.prev; rw [if_neg (by omega)]; rfl
      rw [hd] at hpx hst
      rw [← hp, ← hx, Wd.wr64] at hst hpx
      rw [← hx] at hcell
      rw [← hp]
      have Hst := Lib.hid hst
      have Hp := Lib.hid hpx
      clear hcell0 hst hp hx hpx hd
      go_wp2_with fail
      go_roundw
      case rel => exact ⟨k + 1, by go_num, by omega, by rw [Hp.out], Hst.out⟩
      case measure => simp [intOf]; omega
    · go_wp2_with fail
      go_ret
      obtain rfl : k = m := by omega
      have e : k = d.length := by rw [Hdl.out]; exact Hl.out
      have h1 := hI.1
      rw [e, Wd.fill_all] at h1
      exact ⟨_, _, _, rfl, h1.sl k e (by unfold maxLen; omega), hI.2⟩
set_option maxHeartbeats 400000 in
theorem putPlain_any (A : Option Addr) (m c : Nat) (l : List Int) (w : World) (hS : Wd.Sl w .i64 A m c l) (hm : m ≤ 100000) (hF : Rn.Fits l) :
    Calls Try.prog 39 #[.slice A m c] w (Wd.Out w .u8 (Rn.plain l)) := by
  obtain ⟨i0, hi, hz0, hz1, hz2⟩ := info_parts info_u8
  have hl := hS.len
  have Hl := Lib.hid hl
  have hcap := hS.cap
  have HF := Lib.hid hF
  clear hl hF
  go_enter Try.func39, Try.ntmps39
  go_wp2_with fail
  go_loopw [3, 8] (fun b i wr => ∃ k : Nat, i = .int .i64 k ∧ k ≤ m ∧ wr.ownsRow w.heap.size 5 1 b (Rn.plain (l.take k)).length ((Rn.plain (l.take k)).map (Value.int .u8)) ∧ Below w.heap.size w wr) (fun _ i _ => m - (intOf i).toNat)
  case atStart => exact ⟨0, rfl, Nat.zero_le _, World.ownsRow_nil _ _ _ _, Below.refl _ _⟩
  case round =>
    obtain ⟨k, rfl, hk, hown, hB⟩ := hrel
    by_cases hlt : k < m
    · have hkl : k < l.length := by rw [← Hl.out]; exact hlt
      obtain ⟨b, o, rfl, hbB, hcell0⟩ := hS.rd k hkl
      have hcell := (hB.cell (p := ⟨b, o + k, none⟩) hbB).trans hcell0
      have hx := Wd.fit_get HF.out k hkl
      have hpl := (Rn.plain_len (l.take k)).2
      have htk : (l.take k).length ≤ k := List.length_take_le _ _
      have hpl2 : (Rn.plain (l.take k)).length ≤ 10 * k := by omega
      have hnx := Rn.plain_next l k hkl
      obtain ⟨x, hx'⟩ : ∃ x, x = l.getD k 0 := ⟨_, rfl⟩
      rw [← hx'] at hcell hx hnx
      obtain ⟨hx1, hx2⟩ := hx
      obtain ⟨bs, hbs⟩ : ∃ bs, bs = Rn.plain (l.take k) := ⟨_, rfl⟩
      rw [← hbs] at hown hpl2 hnx
      have hvl := (Nm.vd_len (Nm.zz x)).2
      have Hn := Lib.hid hnx
      have hsz := hB.size
      obtain ⟨wo, rfl⟩ : ∃ wo : World, wo = wr := ⟨_, rfl⟩
      clear hcell0 hx' hnx hbs hpl htk
      go_wp2_with fail
      refine (put_any none 0 0 [] x wo (Wd.Sl.none_ _ _) (by omega) hx1 hx2).mono ?_
      rintro e w1 ⟨A1, n1, c1, rfl, hS1, hB1⟩
      have hown1 := Wd.own_below hown hB1
      rw [List.nil_append] at hS1
      obtain ⟨ds, hds⟩ : ∃ ds, ds = Nm.vd (Nm.zz x) := ⟨_, rfl⟩
      rw [← hds] at hS1 hvl Hn
      have Hn1 := Lib.hid hS1.len
      have hz1' : w.heap.size ≤ w1.heap.size := Nat.le_trans hsz hB1.size
      clear hds hown
      go_wp2_with (at_builtin; refine Wd.wpList_app _ rfl (.tmp 12) (.tmp 14) 33 rfl w.heap.size 5 i0 _ .u8 1 Try.underlying33 hi hz0 hz1 hz2 rfl _ bs rfl hown1 w1.heap.size A1 n1 c1 ds rfl Hn1.out hS1.nil hS1.rd (by omega) (by unfold maxLen; omega) hz1' ?_; intro v' w2 hown2 hg2)
      have hB2 : Below w.heap.size w w2 := (hB.trans (hB1.mono hsz)).grown hg2 hz1' (fun g hg => (hown1.lt g hg).1)
      go_roundw
      case rel => exact ⟨k + 1, by go_num, by omega, by rw [Hn.out]; exact hown2, hB2⟩
      case measure => simp [intOf]; omega
    · go_wp2_with fail
      go_ret
      have e : l.take k = l := List.take_of_length_le (by have := Hl.out; omega)
      rw [e] at hown
      exact Wd.Out.of_own hown hB

theorem putDeltas_any (A : Option Addr) (m c : Nat) (l : List Int) (w : World) (hS : Wd.Sl w .i64 A m c l) (hm : m ≤ 100000) :
    Calls Try.prog 43 #[.slice A m c] w (Wd.Out w .u8 (Rn.plain (Rn.deltas l))) := by
  have hF := Rn.deltas_fits l
  have hdl := Rn.deltas_len l
  have hl := hS.len
  have C1 := Lib.hid (deltas_any A m c l w hS (by omega))
  generalize Rn.deltas l = d at *
  have hd : d.length ≤ 100000 := by omega
  clear hdl hl
  go_enter Try.func43, Try.ntmps43
  go_wp2_with fail
  refine C1.out.mono ?_
  rintro e w1 ⟨A1, n1, c1, rfl, hS1, hB1⟩
  have hn1 : n1 ≤ 100000 := by rw [hS1.len]; exact hd
  go_wp2_with fail
  refine (putPlain_any A1 n1 c1 d w1 hS1 hn1 hF).mono ?_
  rintro e w2 ⟨A2, n2, c2, rfl, hS2, hB2⟩
  go_wp2_with fail
  go_ret
  exact ⟨A2, n2, c2, rfl, hS2, hB1.trans (hB2.mono hB1.size)⟩

set_option maxHeartbeats 400000 in
/-- append(l, v) as often as n says, behind a row of the call's own. -/
theorem appendRun_any (B : Nat) (v : Value) (xs : List Int) (x n : Int) (w : World) (hown : w.ownsRow B 3 1 v xs.length (xs.map (Value.int .i64))) (hB : B ≤ w.heap.size) (hx : xs.length ≤ 100000) (h0 : 0 ≤ n) (hn : n ≤ 100000) :
    Calls Try.prog 27 #[v, .agg #[.int .i64 x, .int .i64 n]] w fun e w' => ∃ v', e = .returned v' ∧ w'.ownsRow B 3 1 v' (xs ++ List.replicate n.toNat x).length ((xs ++ List.replicate n.toNat x).map (Value.int .i64)) ∧ Below B w w' := by
  obtain ⟨i0, hi, hz0, hz1, hz2⟩ := info_parts info_int
  obtain ⟨N, rfl⟩ := Int.eq_ofNat_of_zero_le h0
  rw [Int.toNat_natCast]
  have hN : N ≤ 100000 := by omega
  clear h0 hn
  go_enter Try.func27, Try.ntmps27
  go_wp2_with fail
  go_loopw [0, 7] (fun b i wr => ∃ k : Nat, i = .int .i64 k ∧ k ≤ N ∧ wr.ownsRow B 3 1 b (xs ++ List.replicate k x).length ((xs ++ List.replicate k x).map (Value.int .i64)) ∧ Wd.Bx wr w.heap.size 44 #[.int .i64 x, .int .i64 N] ∧ Below B w wr) (fun _ i _ => N - (intOf i).toNat)
  case atStart => exact ⟨0, rfl, Nat.zero_le _, by simpa using hown.alloc _, Wd.Bx.new _ _ _, (Below.refl _ _).alloc hB _⟩
  case round =>
    clear hown
    obtain ⟨k, rfl, hk, hown, hX, hW⟩ := hrel
    by_cases hlt : k < N
    · have c0 := hX.cell 0
      have cx : wr.cell? ⟨w.heap.size, 0, none⟩ = some (.int .i64 x) := c0
      have hsz : B ≤ wr.heap.size := Nat.le_trans hB hW.size
      have hal := hown.alloc (.cells #[.int .i64 x] 3)
      have hXa := hX.alloc (.cells #[.int .i64 x] 3)
      have hap := hXa.apart hal (by decide)
      have hlo := hal.lt
      have hnx : xs ++ List.replicate (k + 1) x = (xs ++ List.replicate k x) ++ [x] := by rw [List.replicate_succ', List.append_assoc]
      have hyl : (xs ++ List.replicate k x).length ≤ 200000 := by simp; omega
      obtain ⟨ys, hys⟩ : ∃ ys, ys = xs ++ List.replicate k x := ⟨_, rfl⟩
      rw [← hys] at hnx hyl hal
      have Hn := Lib.hid hnx
      have Hal := Lib.hid hal
      have Hap := Lib.hid hap
      have Hlo := Lib.hid hlo
      clear hnx hys hal hown c0 hap hlo
      go_wp2_with (at_builtin; refine Wd.wpList_app _ rfl (.tmp 9) (.tmp 12) 22 rfl B 3 i0 _ .i64 8 Try.underlying22 hi hz0 hz1 hz2 rfl _ ys rfl Hal.out (wr.heap.size + 1) _ 1 1 [x] rfl rfl (by simp) (Wd.Rd.lit wr .i64 [x] _ _ rfl) (by simp; omega) (by simp [maxLen]; omega) (by simp; omega) ?_; intro v' w1 hown1 hg1)
      go_roundw
      case rel => exact ⟨k + 1, by go_num, by omega, by rw [Hn.out]; exact hown1, hXa.grown hg1 Hap.out, (hW.alloc hsz _).grown hg1 (by simp; omega) (fun g hg => (Hlo.out g hg).1)⟩
      case measure => simp [intOf]; omega
    · go_wp2_with fail
      go_ret
      obtain rfl : k = N := by omega
      exact ⟨_, rfl, hown, hW⟩
end Rc
end Go.Proofs.Ytejhnmahmnbmkaa
