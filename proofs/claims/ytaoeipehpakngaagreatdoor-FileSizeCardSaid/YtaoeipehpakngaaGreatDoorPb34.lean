/- What value.own and value.Order leave of the world: blocks of their own behind it, and draws. Package seal: compare, and the comparison that arrange hands to the sort. What slices.SortFunc is at this program: the numbers of what the library speaks of, as its contract asks them. slices.Clone of a and what goes with it. -/
import Derived.Sort.Grow
import Derived.Shelf.SlSortCmp.QuietGrown
import Derived.Shelf.RegionOpen
import Derived.Lib.Hide
import Derived.WalkKit
import Derived.Deep.DeepCutAuto
import Derived.Sort.WalkA
import Derived.Sort.WalkB2
import Derived.Sort.WalkB12
import Derived.Deep.LoopGhost
import Derived.BigRegion
import Derived.Shelf.SlSortCmp.WholeK
import Derived.Ground.SlsfProg
import Derived.Deep.RegionWith
import Derived.Deep.QuietTactic
import Derived.BigQuiet
import Derived.WalkSpells
import Derived.Maps.OwnSet
import Derived.DeepKeys4
import Derived.Maps.Own
import Derived.Maps.OwnOps
import Derived.Maps.Views
import Derived.Laws.EntriesVeiled
import Derived.Deep.RegionLaw
import Derived.Test.YtaoeipehpakngaaGreatDoorPb14
import Derived.Test.YtaoeipehpakngaaGreatDoorPb33
import Derived.Test.YtaoeipehpakngaaGreatDoorProg
import Derived.Test.YtaoeipehpakngaaGreatDoorPb13
import Derived.Test.YtaoeipehpakngaaGreatDoorPb12
import Derived.Test.YtaoeipehpakngaaGreatDoorPb07
import Derived.Test.YtaoeipehpakngaaGreatDoorPb08
import Derived.Test.YtaoeipehpakngaaGreatDoorPb18
import Derived.Test.YtaoeipehpakngaaGreatDoorPb20
import Derived.Test.YtaoeipehpakngaaGreatDoorPb04
import Derived.Test.YtaoeipehpakngaaGreatDoorPb03
import Derived.Test.YtaoeipehpakngaaGreatDoorPb10
import Derived.Test.YtaoeipehpakngaaGreatDoorPb16
import Derived.Test.YtaoeipehpakngaaGreatDoorPb25
import Derived.Test.YtaoeipehpakngaaGreatDoorPb31
namespace Go.Proofs.YtaoeipehpakngaaGreatDoor
set_option maxRecDepth 20000
open Go.RowKit
namespace Vc
open Va
theorem grow_of {w w' : World} (h : Below w.heap.size w w') (hd : w.drawn ≤ w'.drawn) : ∃ q os, w' = Go.Sort.grow (w.drewN q) os := by
  refine ⟨w'.drawn - w.drawn, w'.heap.extract w.heap.size w'.heap.size, ?_⟩
  obtain ⟨h1, h2, h3, h4, h5⟩ := h
  have hh : w'.heap = w.heap ++ w'.heap.extract w.heap.size w'.heap.size := by
    refine Array.ext_getElem? fun k => ?_
    by_cases hk : k < w.heap.size
    · rw [h5 k hk, Array.getElem?_append_left hk]
    · rw [Array.getElem?_append_right (by omega), Array.getElem?_extract]
      split
      · rw [show w.heap.size + (k - w.heap.size) = k by omega]
      · rw [Array.getElem?_eq_none (by omega)]
  cases w
  cases w'
  simp only [World.drewN, Go.Sort.grow] at *
  subst h1 h2 h3
  congr 1
  omega
theorem own_grow (k i : Int) (s : ByteArray) (b : Bool) (w : World) :
    Calls Tryz.prog 190 #[.agg #[.int .i64 k, .int .i64 i, .string s, .bool b]] w fun e w' => e = .returned (.agg #[.int .i64 k, .int .i64 (ownI k i), .string (ownS k s), .bool (ownB k b)]) ∧ (Below w.heap.size w w' ∧ w'.drawn = w.drawn) := by
  unfold ownI ownS ownB
  by_cases h1 : k = 1
  · subst h1
    go_enter Tryz.func190, Tryz.ntmps190
    go_wp2_with fail
    (try simp only [Exit.inBlock, Exit.then])
    refine bodyPost_ret (v := .agg #[.int .i64 1, .int .i64 i, .string ⟨#[]⟩, .bool false]) ?_ rfl ⟨rfl, ?_, rfl⟩
    · rw [res_cell1 rfl]; go_simp
    · repeat' (first | exact Below.refl _ _ | refine Below.setCell ?_ (by simp) _ | refine Below.alloc ?_ (by simp <;> omega) _)
  by_cases h2 : k = 2
  · subst h2
    go_enter Tryz.func190, Tryz.ntmps190
    go_wp2_with fail
    (try simp only [Exit.inBlock, Exit.then])
    refine bodyPost_ret (v := .agg #[.int .i64 2, .int .i64 0, .string s, .bool false]) ?_ rfl ⟨rfl, ?_, rfl⟩
    · rw [res_cell1 rfl]; go_simp
    · repeat' (first | exact Below.refl _ _ | refine Below.setCell ?_ (by simp) _ | refine Below.alloc ?_ (by simp <;> omega) _)
  by_cases h3 : k = 3
  · subst h3
    go_enter Tryz.func190, Tryz.ntmps190
    go_wp2_with fail
    (try simp only [Exit.inBlock, Exit.then])
    refine bodyPost_ret (v := .agg #[.int .i64 3, .int .i64 0, .string ⟨#[]⟩, .bool b]) ?_ rfl ⟨rfl, ?_, rfl⟩
    · rw [res_cell1 rfl]; go_simp
    · repeat' (first | exact Below.refl _ _ | refine Below.setCell ?_ (by simp) _ | refine Below.alloc ?_ (by simp <;> omega) _)
  rw [if_neg h1, if_neg h2, if_neg h3]
  have q1 : (k == 1) = false := by simpa using h1
  have q2 : (k == 2) = false := by simpa using h2
  have q3 : (k == 3) = false := by simpa using h3
  go_enter Tryz.func190, Tryz.ntmps190
  go_wp2_with fail
  (try simp only [Exit.inBlock, Exit.then])
  refine bodyPost_ret (v := .agg #[.int .i64 k, .int .i64 0, .string ⟨#[]⟩, .bool false]) ?_ rfl ⟨rfl, ?_, rfl⟩
  · rw [res_cell1 rfl]; go_simp
  · repeat' (first | exact Below.refl _ _ | refine Below.setCell ?_ (by simp) _ | refine Below.alloc ?_ (by simp <;> omega) _)
set_option maxHeartbeats 2000000 in
theorem order_grow (k i : Int) (s : ByteArray) (b : Bool) (k' i' : Int) (s' : ByteArray) (b' : Bool) (w : World) :
    Calls Tryz.prog 141 #[.agg #[.int .i64 k, .int .i64 i, .string s, .bool b], .agg #[.int .i64 k', .int .i64 i', .string s', .bool b']] w fun e w' => e = .returned (.int .i64 (ord ⟨k, i, s, b⟩ ⟨k', i', s', b'⟩)) ∧ Below w.heap.size w w' ∧ w.drawn ≤ w'.drawn := by
  have Co := Lib.hid own_grow
  go_enter Tryz.func141, Tryz.ntmps141
  go_wp2_with fail
  have hd0 : ((w.alloc (.cells #[.int .i64 k, .int .i64 i, .string s, .bool b] 47)).alloc (.cells #[.int .i64 k', .int .i64 i', .string s', .bool b'] 47)).drawn = w.drawn := rfl
  have hb0 : Below w.heap.size w ((w.alloc (.cells #[.int .i64 k, .int .i64 i, .string s, .bool b] 47)).alloc (.cells #[.int .i64 k', .int .i64 i', .string s', .bool b'] 47)) := ((Below.refl _ _).alloc (Nat.le_refl _) _).alloc (by simp) _
  have hz0 : ((w.alloc (.cells #[.int .i64 k, .int .i64 i, .string s, .bool b] 47)).alloc (.cells #[.int .i64 k', .int .i64 i', .string s', .bool b'] 47)).heap.size = w.heap.size + 1 + 1 := by simp
  have v0 : Vb ((w.alloc (.cells #[.int .i64 k, .int .i64 i, .string s, .bool b] 47)).alloc (.cells #[.int .i64 k', .int .i64 i', .string s', .bool b'] 47)) w.heap.size k i s b := (Wd.Bx.new w _ _).alloc _
  have v1 : Vb ((w.alloc (.cells #[.int .i64 k, .int .i64 i, .string s, .bool b] 47)).alloc (.cells #[.int .i64 k', .int .i64 i', .string s', .bool b'] 47)) (w.heap.size + 1) k' i' s' b' := by
    have := Wd.Bx.new (w.alloc (.cells #[.int .i64 k, .int .i64 i, .string s, .bool b] 47)) 47 #[.int .i64 k', .int .i64 i', .string s', .bool b']
    simpa [Vb] using this
  generalize (w.alloc (.cells #[.int .i64 k, .int .i64 i, .string s, .bool b] 47)).alloc (.cells #[.int .i64 k', .int .i64 i', .string s', .bool b'] 47) = w1 at *
  go_cut [] (fun wx => Vb wx w.heap.size k (ownI k i) (ownS k s) (ownB k b) ∧ Vb wx (w.heap.size + 1) k' (ownI k' i') (ownS k' s') (ownB k' b') ∧ Below w.heap.size w wx ∧ w.drawn ≤ wx.drawn)
  case first =>
    obtain ⟨⟨u0, u1, u2, u3⟩, -⟩ := four v0
    obtain ⟨⟨u4, u5, u6, u7⟩, -⟩ := four v1
    have tok1 : True := trivial
    have hl0 : w.heap.size < w1.heap.size := by omega
    have hl1 : w.heap.size + 1 < w1.heap.size := by omega
    go_region_with (first | (go_at_call 190; (with_reducible refine (Co.out _ _ _ _ _).mono ?_); have _t := tok1; clear tok1; rintro e w2 ⟨rfl, hB2, hD2⟩; have hd2 := Lib.hid (show w1.drawn + 1 = w2.drawn from hD2.symm); clear hD2; have hb2 : Below w1.heap.size w1 w2 := Wd.of_drew hB2; have hz2 := hb2.size; obtain ⟨⟨_, _, _, _⟩, -⟩ := four (Wd.Bx.below v1 hl1 hb2)) | (go_at_call 190; (with_reducible refine (Co.out _ _ _ _ _).mono ?_); rintro e w3 ⟨rfl, hB3, hD3⟩; have hd3 := Lib.hid (Nat.le_trans (Nat.le_succ w1.drawn) (Nat.le_of_eq (hd2.out.trans hD3.symm))); clear hD3; have hb3 : Below w1.heap.size w1 w3 := hb2.trans (hB3.mono hz2); have x0 := Wd.Bx.below v0 hl0 hb3; have x1 := Wd.Bx.below v1 hl1 hb3; obtain ⟨⟨_, _, _, _⟩, _, _, _, _⟩ := four x0; obtain ⟨⟨_, _, _, _⟩, _, _, _, _⟩ := four x1))
    all_goals (go_wp2_with fail; go_meet; exact ⟨(Vb.set x0).other (by omega), (Vb.other x1 (by omega)).set, below_setV (below_setV (hb0.trans (hb3.mono (by omega))) (Nat.le_refl _)) (by omega), by (simp only [World.drawn_setCell]; exact Nat.le_trans (Nat.le_of_eq hd0.symm) hd3.out)⟩)
  case rest =>
    obtain ⟨y0, y1, hB, hD⟩ := hcut
    obtain ⟨⟨c0, c1, c2, c3⟩, -⟩ := four y0
    obtain ⟨⟨c4, c5, c6, c7⟩, -⟩ := four y1
    go_wp2_with fail
    refine wp_region_still_tail 22 (by kernel_rfl) (by kernel_rfl) ?_
    simp only [List.take_succ_cons, List.take_zero, List.drop_succ_cons, List.drop_zero]
    repeat (first | still_call (cmpI_any _ _ _) | still_call (cmpS_any _ _ _) | still_call (digit_any _ _) | still_call (cmpD_any _ _ _) | still_step)
    try refine wpStill_nil ?_
    change wpList _ _ _ _ _ wc.drew
    clear c0 c1 c2 c3 c4 c5 c6 c7 y0 y1
    obtain ⟨r1, hr1⟩ : ∃ r, r = cmpI k k' := ⟨_, rfl⟩
    obtain ⟨r2, hr2⟩ : ∃ r, r = cmpI (ownI k i) (ownI k' i') := ⟨_, rfl⟩
    obtain ⟨r3, hr3⟩ : ∃ r, r = cmpS (ownS k s) (ownS k' s') := ⟨_, rfl⟩
    obtain ⟨r4, hr4⟩ : ∃ r, r = cmpI (dg (ownB k b)) (dg (ownB k' b')) := ⟨_, rfl⟩
    have Hr := Lib.hid (ord_own k i s b k' i' s' b')
    rw [← hr1, ← hr2, ← hr3, ← hr4] at *
    clear hr1 hr2 hr3 hr4
    go_wp2_with fail
    refine (or_any _ 4 4 [r1, r2, r3, r4] _ ((Wd.Sl.lit wc .i64 [r1, r2, r3, r4] _ _ 4 rfl rfl (by decide)).below ((Below.refl _ _).drew)) (by decide)).mono ?_
    rintro e w5 ⟨rfl, rfl⟩
    rw [Hr.out]
    go_wp2_with fail
    go_ret
    exact ⟨rfl, (hB.alloc hB.size _).drew, Nat.le_succ_of_le hD⟩
end Vc
end Go.Proofs.YtaoeipehpakngaaGreatDoor
namespace Go.Proofs.YtaoeipehpakngaaGreatDoor
set_option maxRecDepth 20000
open Go.RowKit Go.Sort
namespace Se
open Va (Vl ord)
open Sc (Sch MayS FitS tr tr_yes tr_no tr_iff tr_congr)
open Sx (Sb five)
def Srt (s : Sch) (r : List Vl) : Prop := s.sort = -1 ∨ (0 ≤ s.sort ∧ s.sort < r.length)
theorem srt_of {s : Sch} {r : List Vl} (h : FitS s r) : Srt s r := by
  obtain ⟨hm, hf⟩ := h
  have h1 := (Sc.mayS_iff s).1 hm
  have h2 := ((Sc.fits_get _ _).1 hf).1
  unfold Srt
  omega
theorem grown_alloc {w : World} {o : Obj} {q : Nat} {os : Array Obj} : grow ((w.alloc o).drewN q) os = grow (w.drewN q) (#[o] ++ os) := by
  rw [alloc_eq_grow]
  show grow (grow (w.drewN q) #[o]) os = _
  rw [grow_grow]
theorem order_grown (x y : Vl) (w : World) (q : Nat) (os : Array Obj) :
    Calls Tryz.prog 141 #[.agg #[.int .i64 x.kind, .int .i64 x.i, .string x.s, .bool x.b], .agg #[.int .i64 y.kind, .int .i64 y.i, .string y.s, .bool y.b]] (grow (w.drewN q) os) fun e w' => e = .returned (.int .i64 (ord x y)) ∧ ∃ q' os', w' = grow ((grow (w.drewN q) os).drewN q') os' :=
  (Vc.order_grow x.kind x.i x.s x.b y.kind y.i y.s y.b _).mono fun _ _ h => ⟨h.1, Vc.grow_of h.2.1 h.2.2⟩
set_option maxHeartbeats 2000000 in
theorem compare_any (A : Option Addr) (n c : Nat) (s : Sch) (R : Option Addr) (m d : Nat) (xs : List Vl) (T : Option Addr) (p q : Nat) (ys : List Vl) (w : World) (hX : Wd.Vs w R m d xs) (hY : Wd.Vs w T p q ys) (h1 : Srt s xs) (h2 : Srt s ys) :
    Calls Tryz.prog 91 #[.agg #[.slice A n c, .int .i64 s.key, .int .i64 s.cmp, .int .i64 s.del, .int .i64 s.sort], .slice R m d, .slice T p q] w fun e w' => e = .returned (.int .i64 (cm s xs ys)) ∧ ∃ q os, w' = grow (w.drewN q) os := by
  have mixed := Ssm.mixed
  by_cases hs : s.sort = -1
  · have e : cm s xs ys = 0 := if_pos hs
    rw [e, hs]
    clear e
    go_enter Tryz.func91, Tryz.ntmps91
    go_wp2_with fail
    go_ret
    exact ⟨rfl, 0, _, (alloc_eq_grow _ _)⟩
  · obtain ⟨K, hK⟩ : ∃ K : Nat, s.sort = (K : Int) := ⟨s.sort.toNat, by unfold Srt at h1; omega⟩
    have hk1 : K < xs.length := by unfold Srt at h1; omega
    have hk2 : K < ys.length := by unfold Srt at h2; omega
    have e : cm s xs ys = ord (xs.getD K default) (ys.getD K default) := by
      unfold cm ky
      rw [if_neg hs, hK, Int.toNat_natCast]
    have hm := hX.len
    have hp := hY.len
    obtain ⟨b, f, hA, hlb, a0, a1, a2, a3, -⟩ := hX.cells hk1 rfl
    obtain ⟨b', f', hA', hlb', b0, b1, b2, b3, -⟩ := hY.cells hk2 rfl
    subst hA hA'
    rw [e, hK]
    generalize xs.getD K default = x at *
    generalize ys.getD K default = y at *
    have km : (K : Int) < (m : Int) := by omega
    have kp : (K : Int) < (p : Int) := by omega
    have hns : ((K : Int) == -1) = false := by simp
    have co := Lib.hid (order_grown x y)
    obtain ⟨w1, hw1⟩ : ∃ w1, w1 = w.alloc (.cells #[.slice A n c, .int .i64 s.key, .int .i64 s.cmp, .int .i64 s.del, .int .i64 (K : Int)] 24) := ⟨_, rfl⟩
    have hz1 : w1.heap.size = w.heap.size + 1 := by rw [hw1]; simp
    have bk : ∀ {a : Addr} {v : Value}, a.block < w.heap.size → w.cell? a = some v → ∀ nq osq, (grow (w1.drewN nq) osq).cell? a = some v := fun {a v} hl hc nq osq => by
      refine cell_grown (by omega) ?_ nq osq
      rw [hw1]
      exact (((Below.refl w.heap.size w).alloc (Nat.le_refl _) _).cell hl).trans hc
    have A0 := bk hlb a0
    have A1 := bk hlb a1
    have A2 := bk hlb a2
    have A3 := bk hlb a3
    have B0 := bk hlb' b0
    have B1 := bk hlb' b1
    have B2 := bk hlb' b2
    have B3 := bk hlb' b3
    have S4 : ∀ nq osq, (grow (w1.drewN nq) osq).cell? ⟨w.heap.size, 4, none⟩ = some (.int .i64 (K : Int)) := fun nq osq => by
      refine cell_grown (by show w.heap.size < _; omega) ?_ nq osq
      rw [hw1]
      exact (Wd.Bx.new w 24 _).cell 4
    have Hw1 := Lib.hid hw1
    clear hw1 bk a0 a1 a2 a3 b0 b1 b2 b3 hs hK hk1 hk2 e hm hp h1 h2 hX hY hlb hlb'
    go_enter Tryz.func91, Tryz.ntmps91
    go_wp2_with fail
    rw [← Hw1.out]
    go_quiet_grown (first | (go_at_call 141; refine Calls.grown_of (co.out _ _ _)))
    go_wp2_with fail
    go_ret
    refine ⟨rfl, nq, #[.cells #[.slice A n c, .int .i64 s.key, .int .i64 s.cmp, .int .i64 s.del, .int .i64 (K : Int)] 24] ++ osq, ?_⟩
    rw [Hw1.out]
    exact grown_alloc
end Se
end Go.Proofs.YtaoeipehpakngaaGreatDoor
namespace Go.Proofs.YtaoeipehpakngaaGreatDoor
open Go.Shelf
def Tryz.sortV_ren : Go.Shelf.Ren := ⟨fun | 6 => 257 | 15 => 186 | 14 => 265 | 28 => 231 | 29 => 210 | 20 => 266 | 21 => 267 | 22 => 268 | 23 => 269 | 24 => 270 | 25 => 271 | 26 => 272 | 27 => 273 | 46 => 274 | 47 => 250 | 48 => 251 | 49 => 275 | 50 => 276 | 57 => 277 | n => n, fun | 22 => 48 | 24 => 47 | 25 => 140 | 3 => 3 | 39 => 134 | 0 => 0 | 53 => 83 | 55 => 131 | 4 => 4 | 46 => 248 | 45 => 247 | 50 => 252 | 5 => 5 | 9 => 9 | 66 => 267 | 70 => 152 | 76 => 281 | 77 => 282 | n => n, fun | n => n⟩
theorem Tryz.sortV : Go.Proofs.SlLaysF0.n6 Tryz.prog Tryz.sortV_ren := {
  mixed := by kernel_rfl
  f6 := ⟨Tryz.f257.name, by decide, Tryz.func257.trans (congrArg some (by kernel_rfl))⟩
  f14 := ⟨Tryz.f265.name, by decide, Tryz.func265.trans (congrArg some (by kernel_rfl))⟩
  f15 := Tryz.func186.trans (congrArg some (by kernel_rfl))
  f20 := ⟨Tryz.f266.name, by decide, Tryz.func266.trans (congrArg some (by kernel_rfl))⟩
  f21 := ⟨Tryz.f267.name, by decide, Tryz.func267.trans (congrArg some (by kernel_rfl))⟩
  f22 := ⟨Tryz.f268.name, by decide, Tryz.func268.trans (congrArg some (by kernel_rfl))⟩
  f23 := ⟨Tryz.f269.name, by decide, Tryz.func269.trans (congrArg some (by kernel_rfl))⟩
  f24 := ⟨Tryz.f270.name, by decide, Tryz.func270.trans (congrArg some (by kernel_rfl))⟩
  f25 := ⟨Tryz.f271.name, by decide, Tryz.func271.trans (congrArg some (by kernel_rfl))⟩
  f26 := ⟨Tryz.f272.name, by decide, Tryz.func272.trans (congrArg some (by kernel_rfl))⟩
  f27 := ⟨Tryz.f273.name, by decide, Tryz.func273.trans (congrArg some (by kernel_rfl))⟩
  f28 := Tryz.func231.trans (congrArg some (by kernel_rfl))
  f29 := Tryz.func210.trans (congrArg some (by kernel_rfl))
  f46 := ⟨Tryz.f274.name, by decide, Tryz.func274.trans (congrArg some (by kernel_rfl))⟩
  f47 := Tryz.func250.trans (congrArg some (by kernel_rfl))
  f48 := Tryz.func251.trans (congrArg some (by kernel_rfl))
  f49 := ⟨Tryz.f275.name, by decide, Tryz.func275.trans (congrArg some (by kernel_rfl))⟩
  f50 := ⟨Tryz.f276.name, by decide, Tryz.func276.trans (congrArg some (by kernel_rfl))⟩
  f57 := ⟨Tryz.f277.name, by decide, Tryz.func277.trans (congrArg some (by kernel_rfl))⟩
  t0 := Tryz.underlying0
  a0 := Tryz.isAgg0
  z0 := Tryz.sizeOf0
  v0 := Tryz.zeroValue0
  t3 := Tryz.underlying3
  a3 := Tryz.isAgg3
  z3 := Tryz.sizeOf3
  v3 := Tryz.zeroValue3
  t4 := Tryz.underlying4
  a4 := Tryz.isAgg4
  z4 := Tryz.sizeOf4
  v4 := Tryz.zeroValue4
  t5 := Tryz.underlying5
  a5 := Tryz.isAgg5
  z5 := Tryz.sizeOf5
  v5 := Tryz.zeroValue5
  t9 := Tryz.underlying9
  a9 := Tryz.isAgg9
  z9 := Tryz.sizeOf9
  v9 := Tryz.zeroValue9
  t22 := Tryz.underlying48
  a22 := Tryz.isAgg48
  z22 := Tryz.sizeOf48
  v22 := Tryz.zeroValue48
  t25 := Tryz.underlying140
  a25 := Tryz.isAgg140
  z25 := Tryz.sizeOf140
  v25 := Tryz.zeroValue140
  t39 := Tryz.underlying134
  a39 := Tryz.isAgg134
  z39 := Tryz.sizeOf134
  v39 := Tryz.zeroValue134
  t45 := Tryz.underlying247
  a45 := Tryz.isAgg247
  z45 := Tryz.sizeOf247
  v45 := Tryz.zeroValue247
  t46 := Tryz.underlying248
  a46 := Tryz.isAgg248
  z46 := Tryz.sizeOf248
  v46 := Tryz.zeroValue248
  t50 := Tryz.underlying252
  a50 := Tryz.isAgg252
  z50 := Tryz.sizeOf252
  v50 := Tryz.zeroValue252
  t53 := Tryz.underlying83
  a53 := Tryz.isAgg83
  z53 := Tryz.sizeOf83
  v53 := Tryz.zeroValue83
  t55 := Tryz.underlying131
  a55 := Tryz.isAgg131
  z55 := Tryz.sizeOf131
  v55 := Tryz.zeroValue131
  t66 := Tryz.underlying267
  a66 := Tryz.isAgg267
  z66 := Tryz.sizeOf267
  v66 := Tryz.zeroValue267
  t70 := Tryz.underlying152
  a70 := Tryz.isAgg152
  z70 := Tryz.sizeOf152
  v70 := Tryz.zeroValue152
  t76 := Tryz.underlying281
  a76 := Tryz.isAgg281
  z76 := Tryz.sizeOf281
  v76 := Tryz.zeroValue281
  t77 := Tryz.underlying282
  a77 := Tryz.isAgg282
  z77 := Tryz.sizeOf282
  v77 := Tryz.zeroValue282 }
end Go.Proofs.YtaoeipehpakngaaGreatDoor
namespace Go.Proofs.YtaoeipehpakngaaGreatDoor
set_option maxRecDepth 20000
open Go.RowKit Go.Shelf
namespace Ds
open Va (Vl May ord null)
open Dc Dx
theorem ins_none (p : Option Addr) (c : Nat) (fv : Value) (w : World) :
    Calls Tryz.prog 266 #[.slice p 0 c, .int .i64 0, .int .i64 0, fv] w fun e w' => e = .returned (.tuple #[]) ∧ w' = w := by
  go_enter Tryz.func266, Tryz.ntmps266
  go_wp2
  refine wp_loop_rounds 1 ?_
  rw [rounds_succ]
  go_wp2
  go_end0
  exact ⟨rfl, rfl⟩
theorem pdq_none (p : Option Addr) (c : Nat) (lim : Int) (fv : Value) (w : World) :
    Calls Tryz.prog 265 #[.slice p 0 c, .int .i64 0, .int .i64 0, .int .i64 lim, fv] w fun e w' => e = .returned (.tuple #[]) ∧ w' = w := by
  have hi := Lib.hid fun W => ins_none p c fv W
  go_enter Tryz.func265, Tryz.ntmps265
  go_wp2
  refine wp_loop_rounds 1 ?_
  rw [rounds_succ]
  go_wp2_with (go_at_call 266; refine (hi.out _).mono ?_; rintro e w' ⟨rfl, rfl⟩)
  (try simp only [Exit.inBlock, Exit.then])
  refine bodyPost_ret (results_none rfl _ _ _) rfl ?_
  exact ⟨rfl, rfl⟩
theorem sort_none (p : Option Addr) (c : Nat) (fv : Value) (w : World) :
    Calls Tryz.prog 257 #[.slice p 0 c, fv] w fun e w' => e = .returned (.tuple #[]) ∧ w' = w := by
  have hp := Lib.hid fun lim W => pdq_none p c lim fv W
  have hl : ∀ W, Calls Tryz.prog 186 #[.int .u64 0] W fun e w' => (∃ n : Int, e = .returned (.int .i64 n)) ∧ w' = W := fun W => by
    have h := Any.bits_Len (SlLaysF0.n15.bits { Tryz.sortV with }) 0 W (by omega) (by omega)
    change Calls Tryz.prog 186 _ _ _ at h
    exact h.mono fun _ _ h => ⟨⟨_, h.1⟩, h.2⟩
  have Hl := Lib.hid hl
  clear hl
  go_enter Tryz.func257, Tryz.ntmps257
  go_wp2_with (first | (go_at_call 186; refine (Hl.out _).mono ?_; rintro e w' ⟨⟨n, rfl⟩, rfl⟩) | (go_at_call 265; refine (hp.out _ _).mono ?_; rintro e w' ⟨rfl, rfl⟩))
  go_end0
  exact ⟨rfl, rfl⟩
end Ds
end Go.Proofs.YtaoeipehpakngaaGreatDoor
namespace Go.Proofs.YtaoeipehpakngaaGreatDoor
set_option maxRecDepth 20000
open Go.RowKit
namespace Se
open Va (Vl May null)
open Sc (Sch tr tr_yes tr_no)
open Ssm (ns)
open Wd (Cr)
open Co (build)
theorem pick_len (l : List (List Vl)) (o : List Nat) (k : Nat) : (pick l o k).length = o.length := by simp [pick]
theorem pick_get {l : List (List Vl)} {o : List Nat} {k i : Nat} (h : i < o.length) : (pick l o k).getD i default = (l.getD (o.getD i 0) []).getD k default := by
  unfold pick
  rw [List.getD_eq_getElem?_getD, List.getElem?_map, List.getElem?_eq_getElem h, List.getD_eq_getElem?_getD (l := o), List.getElem?_eq_getElem h]
  rfl
end Se
end Go.Proofs.YtaoeipehpakngaaGreatDoor
namespace Go.Proofs.YtaoeipehpakngaaGreatDoor
set_option maxRecDepth 20000
open Go.RowKit Go.Sort
namespace Se
open Va (Vl ord)
open Sc (Sch MayS FitS tr tr_yes tr_no tr_iff tr_congr)
open Sx (Sb five)
open Ssm (ns)
def OutNw (w : World) (ys : List Int) (e : Ending) (w' : World) : Prop := ∃ A n c, e = .returned (.slice A n c) ∧ Wd.Sl w' .i64 A n c ys ∧ Below w.heap.size w w' ∧ ∀ a, A = some a → w.heap.size ≤ a.block
end Se
end Go.Proofs.YtaoeipehpakngaaGreatDoor
namespace Go.Proofs.YtaoeipehpakngaaGreatDoor
set_option maxRecDepth 20000
open Go.RowKit
namespace Se
open Va (Vl May null)
open Sc (Sch tr tr_yes tr_no tr_iff tr_congr)
open Sx (Sb five)
open Ssm (ns)
open Wd (Cr)
open Co (build)
def OutBd (w : World) (r : Seg × List Nat × Int) (e : Ending) (w' : World) : Prop :=
  ∃ OA on oc CA cn cc os QA qn qc, e = .returned (.tuple #[.agg #[.int .i64 r.1.part, .int .i64 r.1.id, .int .i64 r.1.st, .int .i64 r.1.en, .slice OA on oc, .slice CA cn cc], .slice QA qn qc, .int .i64 r.2.2]) ∧
    Sg w' OA on oc CA cn cc os r.1 ∧ Wd.Sl w' .i64 QA qn qc (ns r.2.1) ∧ Below w.heap.size w w'
theorem box6 {w : World} {p : Nat} {a b c d e f x0 x1 x2 x3 x4 x5 : Value} (h : Wd.Bx w p 28 #[a, b, c, d, e, f]) :
    Wd.Bx ((((((w.setCell ⟨p, 0, none⟩ x0).setCell ⟨p, 1, none⟩ x1).setCell ⟨p, 2, none⟩ x2).setCell ⟨p, 3, none⟩ x3).setCell ⟨p, 4, none⟩ x4).setCell ⟨p, 5, none⟩ x5) p 28 #[x0, x1, x2, x3, x4, x5] := by
  unfold Wd.Bx at *
  have h1 := heap_setCell_same w p 0 _ 28 x0 h
  have h2 := heap_setCell_same _ p 1 _ 28 x1 h1
  have h3 := heap_setCell_same _ p 2 _ 28 x2 h2
  have h4 := heap_setCell_same _ p 3 _ 28 x3 h3
  have h5 := heap_setCell_same _ p 4 _ 28 x4 h4
  have h6 := heap_setCell_same _ p 5 _ 28 x5 h5
  rw [h6]
  simp
theorem below6 {w : World} {p B : Nat} {w0 : World} (h : Below B w0 w) (hp : B ≤ p) (x0 x1 x2 x3 x4 x5 : Value) : Below B w0 ((((((w.setCell ⟨p, 0, none⟩ x0).setCell ⟨p, 1, none⟩ x1).setCell ⟨p, 2, none⟩ x2).setCell ⟨p, 3, none⟩ x3).setCell ⟨p, 4, none⟩ x4).setCell ⟨p, 5, none⟩ x5) :=
  (((((h.setCell (p := ⟨p, 0, none⟩) hp _).setCell (p := ⟨p, 1, none⟩) hp _).setCell (p := ⟨p, 2, none⟩) hp _).setCell (p := ⟨p, 3, none⟩) hp _).setCell (p := ⟨p, 4, none⟩) hp _).setCell (p := ⟨p, 5, none⟩) hp _
theorem mv6 (w : World) (p : Nat) (x0 x1 x2 x3 x4 x5 : Value) : Wd.Mv (fun x => x = p) w ((((((w.setCell ⟨p, 0, none⟩ x0).setCell ⟨p, 1, none⟩ x1).setCell ⟨p, 2, none⟩ x2).setCell ⟨p, 3, none⟩ x3).setCell ⟨p, 4, none⟩ x4).setCell ⟨p, 5, none⟩ x5) :=
  ((((((Wd.Mv.refl (fun x => x = p) w).set (G := fun x => x = p) (a := ⟨p, 0, none⟩) rfl _).set (a := ⟨p, 1, none⟩) rfl _).set (a := ⟨p, 2, none⟩) rfl _).set (a := ⟨p, 3, none⟩) rfl _).set (a := ⟨p, 4, none⟩) rfl _).set (a := ⟨p, 5, none⟩) rfl _
structure Bs (w w' : World) (A : Option Addr) (n c : Nat) (s : Sch) (OA : Option Addr) (on oc : Nat) (CA : Option Addr) (cn cc : Nat) (x : Seg) : Prop where
  s : Sb w' w.heap.size A n c s.key s.cmp s.del s.sort
  x : Gb w' (w.heap.size + 1) x.part x.id x.st x.en OA on oc CA cn cc
  r : Gb w' (w.heap.size + 1 + 1) 0 0 0 0 none 0 0 none 0 0
  b : Below w.heap.size w w'
  z : w.heap.size + 1 + 1 < w'.heap.size
theorem Bs.below {w w1 w' : World} {A : Option Addr} {n c : Nat} {s : Sch} {OA : Option Addr} {on oc : Nat} {CA : Option Addr} {cn cc : Nat} {x : Seg} (h : Bs w w1 A n c s OA on oc CA cn cc x) (hb : Below w1.heap.size w1 w') : Bs w w' A n c s OA on oc CA cn cc x :=
  ⟨h.s.below h.s.lt hb, h.x.below h.x.lt hb, h.r.below h.r.lt hb, h.b.trans (hb.mono h.b.size), Nat.lt_of_lt_of_le h.z hb.size⟩
end Se
namespace Fi
open Se (Seg Sg Gb box6 mv6)
open Wd (Cr)
theorem list_new {w1 : World} {PA : Option Addr} {pn pc : Nat} {ps : List (List Int)} (h : Wd.Ss w1 PA pn pc ps) :
    Lb w1 (w1.alloc (.cells #[.int .i64 0, .int .i64 0, .int .i64 0, .int .i64 0, .slice none 0 0, .slice none 0 0, .slice PA pn pc] 103)) w1.heap.size 0 0 0 0 none 0 0 none 0 0 ps :=
  ⟨⟨PA, pn, pc, h, Wd.Bx.new w1 _ _⟩, Nat.le_refl _, (Below.refl _ _).alloc (Nat.le_refl _) _⟩
theorem Lb.six {w0 w : World} {p : Nat} {a b c d : Int} {OA : Option Addr} {on oc : Nat} {CA : Option Addr} {cn cc : Nat} {ps : List (List Int)} (h : Lb w0 w p a b c d OA on oc CA cn cc ps) :
    w.cell? ⟨p, 0, none⟩ = some (.int .i64 a) ∧ w.cell? ⟨p, 1, none⟩ = some (.int .i64 b) ∧ w.cell? ⟨p, 2, none⟩ = some (.int .i64 c) ∧ w.cell? ⟨p, 3, none⟩ = some (.int .i64 d) ∧ w.cell? ⟨p, 4, none⟩ = some (.slice OA on oc) ∧ w.cell? ⟨p, 5, none⟩ = some (.slice CA cn cc) := by
  obtain ⟨⟨PA, pn, pc, _, h⟩, _, _⟩ := h
  exact ⟨h.cell 0, h.cell 1, h.cell 2, h.cell 3, h.cell 4, h.cell 5⟩
theorem seg_nou (a b c d : Int) (A : Option Addr) (n c' : Nat) (B : Option Addr) (m d' : Nat) : ∀ v ∈ [Value.int .i64 a, .int .i64 b, .int .i64 c, .int .i64 d, .slice A n c', .slice B m d'], (∀ x, v ≠ .string x) ∧ ∀ x, v ≠ .int .u8 x := by
  intro v hv
  simp only [List.mem_cons, List.not_mem_nil, or_false] at hv
  rcases hv with rfl | rfl | rfl | rfl | rfl | rfl <;> exact ⟨by simp, by simp⟩
structure SgN (B : Nat) (w : World) (OA : Option Addr) (on oc : Nat) (CA : Option Addr) (cn cc : Nat) (os : List Cr) (x : Seg) : Prop where
  o : Wd.SlB B w .i64 OA on oc x.offs
  c : Wd.OwC w B (.slice CA cn cc) os
  r : ∀ j, j < os.length → Wd.Cr1 w (os.getD j default)
  e : Wd.cols os = x.cols
section
variable {B B' : Nat} {w w' : World} {OA : Option Addr} {on oc : Nat} {CA : Option Addr} {cn cc : Nat} {os : List Cr} {x : Seg}
theorem SgN.up (h : SgN B w OA on oc CA cn cc os x) (hB : B' ≤ B) : SgN B' w OA on oc CA cn cc os x :=
  ⟨h.o.up hB, by
    rcases h.c with h | ⟨g, cap, e, h1, h2⟩
    · exact .inl h
    · exact .inr ⟨g, cap, e, by omega, h2⟩, h.r, h.e⟩
theorem SgN.below (h : SgN B w OA on oc CA cn cc os x) (hb : Below w.heap.size w w') : SgN B w' OA on oc CA cn cc os x :=
  ⟨h.o.below hb, h.c.below hb, fun j hj => (h.r j hj).below hb, h.e⟩
theorem SgN.kept {p : Nat} {a b c d : Int} {A : Option Addr} {n c' : Nat} {D : Option Addr} {m d' : Nat} (h : SgN B w OA on oc CA cn cc os x) (hb : Gb w p a b c d A n c' D m d') (mv : Wd.Mv (fun g => g = p) w w') (h1 : p < B) : SgN B w' OA on oc CA cn cc os x := by
  have hb' : Wd.Bx w p 28 [Value.int .i64 a, .int .i64 b, .int .i64 c, .int .i64 d, .slice A n c', .slice D m d'].toArray := hb
  exact ⟨⟨h.o.1.keep mv fun a e _ q => by have := h.o.2 a e; omega, h.o.2⟩, h.c.keep mv fun g e q => by have := (h.c.block e).1; omega, fun j hj => (h.r j hj).keep mv fun g q => by
    subst q
    exact ⟨_, _, hb', fun v hv => (seg_nou _ _ _ _ _ _ _ _ _ _ v hv).1, fun v hv => (seg_nou _ _ _ _ _ _ _ _ _ _ v hv).2⟩, h.e⟩
theorem SgN.sg (h : SgN B w OA on oc CA cn cc os x) (hx : Nice x) : Sg w OA on oc CA cn cc os x := by
  have lit : ∀ n : Int, -9223372036854775808 ≤ n → n ≤ 9223372036854775807 → (Lit.int .i64 n).wf = true := fun n h1 h2 => by simp [Lit.wf, IntKind.min, IntKind.max, IntKind.signed, IntKind.bits]; omega
  obtain ⟨x1, x2, x3, x4, x5, x6, x7⟩ := hx.head
  exact ⟨h.o.1, h.c.cms h.r, h.e.symm, fun z hz => lit z (hx.fit z hz).1 (hx.fit z hz).2, lit _ (by omega) (by omega), lit _ (by omega) (by omega), lit _ (by omega) (by omega), lit _ (by omega) (by omega)⟩
end
def OutR (w : World) (x : Seg) (ok : Bool) (e : Ending) (w' : World) : Prop :=
  ∃ OA on oc CA cn cc os, e = .returned (.tuple #[.agg #[.int .i64 x.part, .int .i64 x.id, .int .i64 x.st, .int .i64 x.en, .slice OA on oc, .slice CA cn cc], .bool ok]) ∧ SgN w.heap.size w' OA on oc CA cn cc os x ∧ Below w.heap.size w w'
set_option maxHeartbeats 8000000 in
theorem read_yes (A : Option Addr) (n c : Nat) (x : Seg) (w : World) (hS : Wd.Sl w .u8 A n c (fileB x)) (hG : Good x) (hc : x.cols.length ≤ 100000) :
    Calls Tryz.prog 29 #[.slice A n c, .int .i64 (x.cols.length : Int)] w (OutR w x true) := by
  have b0 := (Below.refl w.heap.size w).alloc (Nat.le_refl _) (.cells #[.int .i64 0, .int .i64 0, .int .i64 0, .int .i64 0, .slice none 0 0, .slice none 0 0] 28)
  have r0 := Gb.new w 0 0 0 0 none 0 0 none 0 0
  obtain ⟨wa, hwa⟩ : ∃ wa, wa = w.alloc (.cells #[.int .i64 0, .int .i64 0, .int .i64 0, .int .i64 0, .slice none 0 0, .slice none 0 0] 28) := ⟨_, rfl⟩
  rw [← hwa] at b0 r0
  have hn : n ≤ 1000000 := by rw [hS.len]; have := hG.len; omega
  have Cr := Fc.read_any A n c (fileB x) wa (hS.below b0) hn (file_byt hG)
  rw [rd_file hG.fine, ← hS.len] at Cr
  have Cr := Lib.hid Cr
  obtain ⟨N, hN⟩ : ∃ N, N = x.cols.length := ⟨_, rfl⟩
  have HN := Lib.hid hN
  rw [← hN] at hc ⊢
  have B0 := Lib.hid b0
  have R0 := Lib.hid r0
  have Hwa := Lib.hid hwa
  have HG := Lib.hid hG
  have hr0 : w.heap.size < wa.heap.size := r0.lt
  clear hwa b0 r0 hS hN hG
  go_enter Tryz.func29, Tryz.ntmps29
  go_upto_region 1 with fail
  rw [← Hwa.out]
  go_wp2_with fail
  refine Cr.out.mono ?_
  rintro e w1 ⟨PA, pn, pc, rfl, hP, hB1⟩
  have R1 := Lib.hid (R0.out.below R0.out.lt hB1)
  have B1 := Lib.hid (B0.out.trans (hB1.mono B0.out.size))
  have hr1 : w.heap.size < w1.heap.size := Nat.lt_of_lt_of_le hr0 hB1.size
  have L2 := Lib.hid (list_new hP)
  obtain ⟨w2, hw2⟩ : ∃ w2, w2 = w1.alloc (.cells #[.int .i64 0, .int .i64 0, .int .i64 0, .int .i64 0, .slice none 0 0, .slice none 0 0, .slice PA pn pc] 103) := ⟨_, rfl⟩
  rw [← hw2] at L2
  have Hw2 := Lib.hid hw2
  have hs12 : w1.heap.size ≤ w2.heap.size := L2.out.bel.size
  have q0 : ((n : Int) == (n : Int)) = true := by simp
  have hpl : (Rn.enc x.offs :: x.cols.map Co.puts).length ≤ 1000000 := by rw [List.length_cons, List.length_map, ← HN.out]; omega
  have Ch := readHead_yes HG.out.nice L2.out hpl
  rw [← HN.out] at Ch
  have Ch := Lib.hid Ch
  clear hw2 hP hB1 Cr hpl hr0
  go_upto_region 3 with fail
  rw [← Hw2.out]
  go_wp2_with fail
  refine Ch.out.mono ?_
  rintro e w3 ⟨rfl, hL3, hM3⟩
  have Co := Lib.hid (readOffsets_yes hL3 (by rw [List.length_map, ← HN.out]; omega) HG.out.nice.len HG.out.nice.fit)
  have hs23 : w2.heap.size ≤ w3.heap.size := hM3.size
  clear hL3 hM3 Ch
  go_wp2_with fail
  refine Co.out.mono ?_
  rintro e w4 ⟨rfl, YA, yn, yc, hL4, hS4, hM4⟩
  have Cc := readColumns_yes hL4 HG.out.v1 (fun C hC => ⟨HG.out.byts C hC, HG.out.room _ (by unfold pays; simp only [List.mem_cons, List.mem_map]; exact .inr (.inr ⟨C, hC, rfl⟩))⟩) (by rw [← HN.out]; exact hc) hS4.1
  rw [← HN.out] at Cc
  have Cc := Lib.hid Cc
  have hs34 : w3.heap.size ≤ w4.heap.size := hM4.size
  have HS4 := Lib.hid hS4
  clear hL4 hS4 hM4 Co
  go_wp2_with fail
  refine Cc.out.mono ?_
  rintro e w5 ⟨rfl, DA, dn, dc, ys, hL5, how, hcr, hcol, hO5⟩
  obtain ⟨d0, d1, d2, d3, d4, d5⟩ := hL5.six
  have R5 := R1.out.below hr1 hL5.bel
  obtain ⟨u0, u1, u2, u3, u4, u5⟩ := Gb.six R5
  have f0 := R5.free 0
  have f1 := R5.free 1
  have f2 := R5.free 2
  have f3 := R5.free 3
  have f4 := R5.free 4
  have f5 := R5.free 5
  have M6 := mv6 w5 w.heap.size (.int .i64 x.part) (.int .i64 x.id) (.int .i64 x.st) (.int .i64 x.en) (.slice YA yn yc) (.slice DA dn dc)
  have K6 := Lib.hid (box6 (x0 := .int .i64 x.part) (x1 := .int .i64 x.id) (x2 := .int .i64 x.st) (x3 := .int .i64 x.en) (x4 := .slice YA yn yc) (x5 := .slice DA dn dc) R5)
  have S6 := Lib.hid ((SgN.kept (B := w1.heap.size) ⟨⟨hO5, (HS4.out.up (Nat.le_trans hs12 hs23)).2⟩, (by
    rcases how with h | ⟨g, cap, e, h1, h2⟩
    · exact .inl h
    · exact .inr ⟨g, cap, e, by omega, h2⟩), hcr, hcol⟩ R5 M6 hr1).up (Nat.le_of_lt hr1))
  have B6 := Lib.hid ((B1.out.trans (hL5.bel.mono B1.out.size)).trans ((M6.below (fun g e => by rw [e]; exact Nat.le_refl _) (Nat.le_trans B1.out.size hL5.bel.size))))
  clear how hcr hcol hO5 hL5 M6 R5 Cc
  go_wp2_with fail
  have g0 := K6.out.cell 0
  have g1 := K6.out.cell 1
  have g2 := K6.out.cell 2
  have g3 := K6.out.cell 3
  have g4 := K6.out.cell 4
  have g5 := K6.out.cell 5
  refine bodyPost_ret (v := .tuple #[.agg #[.int .i64 x.part, .int .i64 x.id, .int .i64 x.st, .int .i64 x.en, .slice YA yn yc, .slice DA dn dc], .bool true]) ?_ rfl ⟨YA, yn, yc, DA, dn, dc, ys, rfl, S6.out, B6.out⟩
  rw [Cx.res_cell2 rfl]; go_simp
end Fi
end Go.Proofs.YtaoeipehpakngaaGreatDoor
