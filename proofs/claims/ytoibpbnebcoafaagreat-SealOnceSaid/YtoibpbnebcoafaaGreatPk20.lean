/- What value.own and value.Order leave of the world: blocks of their own behind it, and draws. Package seal: compare, and the comparison that arrange hands to the sort. Sets of numbers as lists that rise, in plain words. No program, no memory. A column's numbers and its rows as sets: plain facts. No walk. -/
import Derived.Sort.Grow
import Derived.Shelf.SlSortCmp.QuietGrown
import Derived.Shelf.RegionOpen
import Derived.Lib.Hide
import Derived.Test.YtoibpbnebcoafaaGreatPk19
import Derived.Test.YtoibpbnebcoafaaGreatPk15
import Derived.Test.YtoibpbnebcoafaaGreatPk07
namespace Go.Proofs.YtoibpbnebcoafaaGreat
set_option maxRecDepth 20000
open Go.RowKit
namespace Vc
open Va
/-- Blocks behind a world, and draws. -/
theorem grow_of {w w' : World} (h : Below w.heap.size w w') (hd : w.drawn ≤ w'.drawn) : ∃ q os, w' = Go.Sort.grow (w.drewN q) os := by
  refine ⟨w'.drawn - w.drawn, w'.heap.extract w.heap.size w'.heap.size, ?_⟩
  obtain ⟨h1, h2, h3, h4, h5⟩ := h
  have hh : w'.heap = w.heap ++ w'.heap.extract w.heap.size w'.heap.size := by
    refine Array.ext_getElem? fun k => ?_
    by_cases hk : k < w.heap.size
    · rw [h5 k hk, Array.getElem?_append_left hk]
    · rw [Array.getElem?_append_right (by omega), Array.getElem?_extract]
      split
      · rw [show w.heap.size + (k - w.heap.size) = k by omega]
      · rw [Array.getElem?_eq_none (by omega)]
  cases w
  cases w'
  simp only [World.drewN, Go.Sort.grow] at *
  subst h1 h2 h3
  congr 1
  omega
theorem own_grow (k i : Int) (s : ByteArray) (b : Bool) (w : World) :
    Calls Tryz.prog 108 #[.agg #[.int .i64 k, .int .i64 i, .string s, .bool b]] w fun e w' => e = .returned (.agg #[.int .i64 k, .int .i64 (ownI k i), .string (ownS k s), .bool (ownB k b)]) ∧ (Below w.heap.size w w' ∧ w'.drawn = w.drawn) := by
  unfold ownI ownS ownB
  by_cases h1 : k = 1
  · subst h1
    go_enter Tryz.func108, Tryz.ntmps108
    go_wp2_with fail
    (try simp only [Exit.inBlock, Exit.then])
    refine bodyPost_ret (v := .agg #[.int .i64 1, .int .i64 i, .string ⟨#[]⟩, .bool false]) ?_ rfl ⟨rfl, ?_, rfl⟩
    · rw [res_cell1 rfl]; go_simp
    · repeat' (first | exact Below.refl _ _ | refine Below.setCell ?_ (by simp) _ | refine Below.alloc ?_ (by simp <;> omega) _)
  by_cases h2 : k = 2
  · subst h2
    go_enter Tryz.func108, Tryz.ntmps108
    go_wp2_with fail
    (try simp only [Exit.inBlock, Exit.then])
    refine bodyPost_ret (v := .agg #[.int .i64 2, .int .i64 0, .string s, .bool false]) ?_ rfl ⟨rfl, ?_, rfl⟩
    · rw [res_cell1 rfl]; go_simp
    · repeat' (first | exact Below.refl _ _ | refine Below.setCell ?_ (by simp) _ | refine Below.alloc ?_ (by simp <;> omega) _)
  by_cases h3 : k = 3
  · subst h3
    go_enter Tryz.func108, Tryz.ntmps108
    go_wp2_with fail
    (try simp only [Exit.inBlock, Exit.then])
    refine bodyPost_ret (v := .agg #[.int .i64 3, .int .i64 0, .string ⟨#[]⟩, .bool b]) ?_ rfl ⟨rfl, ?_, rfl⟩
    · rw [res_cell1 rfl]; go_simp
    · repeat' (first | exact Below.refl _ _ | refine Below.setCell ?_ (by simp) _ | refine Below.alloc ?_ (by simp <;> omega) _)
  rw [if_neg h1, if_neg h2, if_neg h3]
  have q1 : (k == 1) = false := by simpa using h1
  have q2 : (k == 2) = false := by simpa using h2
  have q3 : (k == 3) = false := by simpa using h3
  go_enter Tryz.func108, Tryz.ntmps108
  go_wp2_with fail
  (try simp only [Exit.inBlock, Exit.then])
  refine bodyPost_ret (v := .agg #[.int .i64 k, .int .i64 0, .string ⟨#[]⟩, .bool false]) ?_ rfl ⟨rfl, ?_, rfl⟩
  · rw [res_cell1 rfl]; go_simp
  · repeat' (first | exact Below.refl _ _ | refine Below.setCell ?_ (by simp) _ | refine Below.alloc ?_ (by simp <;> omega) _)
set_option maxHeartbeats 2000000 in
theorem order_grow (k i : Int) (s : ByteArray) (b : Bool) (k' i' : Int) (s' : ByteArray) (b' : Bool) (w : World) :
    Calls Tryz.prog 87 #[.agg #[.int .i64 k, .int .i64 i, .string s, .bool b], .agg #[.int .i64 k', .int .i64 i', .string s', .bool b']] w fun e w' => e = .returned (.int .i64 (ord ⟨k, i, s, b⟩ ⟨k', i', s', b'⟩)) ∧ Below w.heap.size w w' ∧ w.drawn ≤ w'.drawn := by
  have Co := Lib.hid own_grow
  go_enter Tryz.func87, Tryz.ntmps87
  go_wp2_with fail
  have hd0 : ((w.alloc (.cells #[.int .i64 k, .int .i64 i, .string s, .bool b] 56)).alloc (.cells #[.int .i64 k', .int .i64 i', .string s', .bool b'] 56)).drawn = w.drawn := rfl
  have hb0 : Below w.heap.size w ((w.alloc (.cells #[.int .i64 k, .int .i64 i, .string s, .bool b] 56)).alloc (.cells #[.int .i64 k', .int .i64 i', .string s', .bool b'] 56)) := ((Below.refl _ _).alloc (Nat.le_refl _) _).alloc (by simp) _
  have hz0 : ((w.alloc (.cells #[.int .i64 k, .int .i64 i, .string s, .bool b] 56)).alloc (.cells #[.int .i64 k', .int .i64 i', .string s', .bool b'] 56)).heap.size = w.heap.size + 1 + 1 := by simp
  have v0 : Vb ((w.alloc (.cells #[.int .i64 k, .int .i64 i, .string s, .bool b] 56)).alloc (.cells #[.int .i64 k', .int .i64 i', .string s', .bool b'] 56)) w.heap.size k i s b := (Wd.Bx.new w _ _).alloc _
  have v1 : Vb ((w.alloc (.cells #[.int .i64 k, .int .i64 i, .string s, .bool b] 56)).alloc (.cells #[.int .i64 k', .int .i64 i', .string s', .bool b'] 56)) (w.heap.size + 1) k' i' s' b' := by
    have := Wd.Bx.new (w.alloc (.cells #[.int .i64 k, .int .i64 i, .string s, .bool b] 56)) 56 #[.int .i64 k', .int .i64 i', .string s', .bool b']
    simpa [Vb] using this
  generalize (w.alloc (.cells #[.int .i64 k, .int .i64 i, .string s, .bool b] 56)).alloc (.cells #[.int .i64 k', .int .i64 i', .string s', .bool b'] 56) = w1 at *
  go_cut [] (fun wx => Vb wx w.heap.size k (ownI k i) (ownS k s) (ownB k b) ∧ Vb wx (w.heap.size + 1) k' (ownI k' i') (ownS k' s') (ownB k' b') ∧ Below w.heap.size w wx ∧ w.drawn ≤ wx.drawn)
  case first =>
    obtain ⟨⟨u0, u1, u2, u3⟩, -⟩ := four v0
    obtain ⟨⟨u4, u5, u6, u7⟩, -⟩ := four v1
    have tok1 : True := trivial
    have hl0 : w.heap.size < w1.heap.size := by omega
    have hl1 : w.heap.size + 1 < w1.heap.size := by omega
    go_region_with (first | (go_at_call 108; (with_reducible refine (Co.out _ _ _ _ _).mono ?_); have _t := tok1; clear tok1; rintro e w2 ⟨rfl, hB2, hD2⟩; have hd2 := Lib.hid (show w1.drawn + 1 = w2.drawn from hD2.symm); clear hD2; have hb2 : Below w1.heap.size w1 w2 := Wd.of_drew hB2; have hz2 := hb2.size; obtain ⟨⟨_, _, _, _⟩, -⟩ := four (Wd.Bx.below v1 hl1 hb2)) | (go_at_call 108; (with_reducible refine (Co.out _ _ _ _ _).mono ?_); rintro e w3 ⟨rfl, hB3, hD3⟩; have hd3 := Lib.hid (Nat.le_trans (Nat.le_succ w1.drawn) (Nat.le_of_eq (hd2.out.trans hD3.symm))); clear hD3; have hb3 : Below w1.heap.size w1 w3 := hb2.trans (hB3.mono hz2); have x0 := Wd.Bx.below v0 hl0 hb3; have x1 := Wd.Bx.below v1 hl1 hb3; obtain ⟨⟨_, _, _, _⟩, _, _, _, _⟩ := four x0; obtain ⟨⟨_, _, _, _⟩, _, _, _, _⟩ := four x1))
    all_goals (go_wp2_with fail; go_meet; exact ⟨(Vb.set x0).other (by omega), (Vb.other x1 (by omega)).set, below_setV (below_setV (hb0.trans (hb3.mono (by omega))) (Nat.le_refl _)) (by omega), by (simp only [World.drawn_setCell]; exact Nat.le_trans (Nat.le_of_eq hd0.symm) hd3.out)⟩)
  case rest =>
    obtain ⟨y0, y1, hB, hD⟩ := hcut
    obtain ⟨⟨c0, c1, c2, c3⟩, -⟩ := four y0
    obtain ⟨⟨c4, c5, c6, c7⟩, -⟩ := four y1
    go_wp2_with fail
    refine wp_region_still_tail 22 (by kernel_rfl) (by kernel_rfl) ?_
    simp only [List.take_succ_cons, List.take_zero, List.drop_succ_cons, List.drop_zero]
    repeat (first | still_call (cmpI_any _ _ _) | still_call (cmpS_any _ _ _) | still_call (digit_any _ _) | still_call (cmpD_any _ _ _) | still_step)
    try refine wpStill_nil ?_
    change wpList _ _ _ _ _ wc.drew
    clear c0 c1 c2 c3 c4 c5 c6 c7 y0 y1
    obtain ⟨r1, hr1⟩ : ∃ r, r = cmpI k k' := ⟨_, rfl⟩
    obtain ⟨r2, hr2⟩ : ∃ r, r = cmpI (ownI k i) (ownI k' i') := ⟨_, rfl⟩
    obtain ⟨r3, hr3⟩ : ∃ r, r = cmpS (ownS k s) (ownS k' s') := ⟨_, rfl⟩
    obtain ⟨r4, hr4⟩ : ∃ r, r = cmpI (dg (ownB k b)) (dg (ownB k' b')) := ⟨_, rfl⟩
    have Hr := Lib.hid (ord_own k i s b k' i' s' b')
    rw [← hr1, ← hr2, ← hr3, ← hr4] at *
    clear hr1 hr2 hr3 hr4
    go_wp2_with fail
    refine (or_any _ 4 4 [r1, r2, r3, r4] _ ((Wd.Sl.lit wc .i64 [r1, r2, r3, r4] _ _ 4 rfl rfl (by decide)).below ((Below.refl _ _).drew)) (by decide)).mono ?_
    rintro e w5 ⟨rfl, rfl⟩
    rw [Hr.out]
    go_wp2_with fail
    go_ret
    exact ⟨rfl, (hB.alloc hB.size _).drew, Nat.le_succ_of_le hD⟩
end Vc
end Go.Proofs.YtoibpbnebcoafaaGreat
namespace Go.Proofs.YtoibpbnebcoafaaGreat
set_option maxRecDepth 20000
open Go.RowKit Go.Sort
namespace Se
open Va (Vl ord)
open Sc (Sch MayS FitS tr tr_yes tr_no tr_iff tr_congr)
open Sx (Sb five)
/-- A row has a value in the Sort column, if there is one. -/
def Srt (s : Sch) (r : List Vl) : Prop := s.sort = -1 ∨ (0 ≤ s.sort ∧ s.sort < r.length)
theorem srt_of {s : Sch} {r : List Vl} (h : FitS s r) : Srt s r := by
  obtain ⟨hm, hf⟩ := h
  have h1 := (Sc.mayS_iff s).1 hm
  have h2 := ((Sc.fits_get _ _).1 hf).1
  unfold Srt
  omega
theorem grown_alloc {w : World} {o : Obj} {q : Nat} {os : Array Obj} : grow ((w.alloc o).drewN q) os = grow (w.drewN q) (#[o] ++ os) := by
  rw [alloc_eq_grow]
  show grow (grow (w.drewN q) #[o]) os = _
  rw [grow_grow]
theorem order_grown (x y : Vl) (w : World) (q : Nat) (os : Array Obj) :
    Calls Tryz.prog 87 #[.agg #[.int .i64 x.kind, .int .i64 x.i, .string x.s, .bool x.b], .agg #[.int .i64 y.kind, .int .i64 y.i, .string y.s, .bool y.b]] (grow (w.drewN q) os) fun e w' => e = .returned (.int .i64 (ord x y)) ∧ ∃ q' os', w' = grow ((grow (w.drewN q) os).drewN q') os' :=
  (Vc.order_grow x.kind x.i x.s x.b y.kind y.i y.s y.b _).mono fun _ _ h => ⟨h.1, Vc.grow_of h.2.1 h.2.2⟩
set_option maxHeartbeats 2000000 in
theorem compare_any (A : Option Addr) (n c : Nat) (s : Sch) (R : Option Addr) (m d : Nat) (xs : List Vl) (T : Option Addr) (p q : Nat) (ys : List Vl) (w : World) (hX : Wd.Vs w R m d xs) (hY : Wd.Vs w T p q ys) (h1 : Srt s xs) (h2 : Srt s ys) :
    Calls Tryz.prog 62 #[.agg #[.slice A n c, .int .i64 s.key, .int .i64 s.cmp, .int .i64 s.del, .int .i64 s.sort], .slice R m d, .slice T p q] w fun e w' => e = .returned (.int .i64 (cm s xs ys)) ∧ ∃ q os, w' = grow (w.drewN q) os := by
  have mixed := Ssm.mixed
  by_cases hs : s.sort = -1
  · have e : cm s xs ys = 0 := if_pos hs
    rw [e, hs]
    clear e
    go_enter Tryz.func62, Tryz.ntmps62
    go_wp2_with fail
    go_ret
    exact ⟨rfl, 0, _, (alloc_eq_grow _ _)⟩
  · obtain ⟨K, hK⟩ : ∃ K : Nat, s.sort = (K : Int) := ⟨s.sort.toNat, by unfold Srt at h1; omega⟩
    have hk1 : K < xs.length := by unfold Srt at h1; omega
    have hk2 : K < ys.length := by unfold Srt at h2; omega
    have e : cm s xs ys = ord (xs.getD K default) (ys.getD K default) := by
      unfold cm ky
      rw [if_neg hs, hK, Int.toNat_natCast]
    have hm := hX.len
    have hp := hY.len
    obtain ⟨b, f, hA, hlb, a0, a1, a2, a3, -⟩ := hX.cells hk1 rfl
    obtain ⟨b', f', hA', hlb', b0, b1, b2, b3, -⟩ := hY.cells hk2 rfl
    subst hA hA'
    rw [e, hK]
    generalize xs.getD K default = x at *
    generalize ys.getD K default = y at *
    have km : (K : Int) < (m : Int) := by omega
    have kp : (K : Int) < (p : Int) := by omega
    have hns : ((K : Int) == -1) = false := by simp
    have co := Lib.hid (order_grown x y)
    obtain ⟨w1, hw1⟩ : ∃ w1, w1 = w.alloc (.cells #[.slice A n c, .int .i64 s.key, .int .i64 s.cmp, .int .i64 s.del, .int .i64 (K : Int)] 24) := ⟨_, rfl⟩
    have hz1 : w1.heap.size = w.heap.size + 1 := by rw [hw1]; simp
    have bk : ∀ {a : Addr} {v : Value}, a.block < w.heap.size → w.cell? a = some v → ∀ nq osq, (grow (w1.drewN nq) osq).cell? a = some v := fun {a v} hl hc nq osq => by
      refine cell_grown (by omega) ?_ nq osq
      rw [hw1]
      exact (((Below.refl w.heap.size w).alloc (Nat.le_refl _) _).cell hl).trans hc
    have A0 := bk hlb a0
    have A1 := bk hlb a1
    have A2 := bk hlb a2
    have A3 := bk hlb a3
    have B0 := bk hlb' b0
    have B1 := bk hlb' b1
    have B2 := bk hlb' b2
    have B3 := bk hlb' b3
    have S4 : ∀ nq osq, (grow (w1.drewN nq) osq).cell? ⟨w.heap.size, 4, none⟩ = some (.int .i64 (K : Int)) := fun nq osq => by
      refine cell_grown (by show w.heap.size < _; omega) ?_ nq osq
      rw [hw1]
      exact (Wd.Bx.new w 24 _).cell 4
    have Hw1 := Lib.hid hw1
    clear hw1 bk a0 a1 a2 a3 b0 b1 b2 b3 hs hK hk1 hk2 e hm hp h1 h2 hX hY hlb hlb'
    go_enter Tryz.func62, Tryz.ntmps62
    go_wp2_with fail
    rw [← Hw1.out]
    go_quiet_grown (first | (go_at_call 87; refine Calls.grown_of (co.out _ _ _)))
    go_wp2_with fail
    go_ret
    refine ⟨rfl, nq, #[.cells #[.slice A n c, .int .i64 s.key, .int .i64 s.cmp, .int .i64 s.del, .int .i64 (K : Int)] 24] ++ osq, ?_⟩
    rw [Hw1.out]
    exact grown_alloc
theorem compare_grown (A : Option Addr) (n c : Nat) (s : Sch) (R : Option Addr) (m d : Nat) (xs : List Vl) (T : Option Addr) (p q : Nat) (ys : List Vl) (w : World) (hX : Wd.Vs w R m d xs) (hY : Wd.Vs w T p q ys) (h1 : Srt s xs) (h2 : Srt s ys) (k : Nat) (os : Array Obj) :
    Calls Tryz.prog 62 #[.agg #[.slice A n c, .int .i64 s.key, .int .i64 s.cmp, .int .i64 s.del, .int .i64 s.sort], .slice R m d, .slice T p q] (grow (w.drewN k) os) fun e w' => e = .returned (.int .i64 (cm s xs ys)) ∧ ∃ q' os', w' = grow ((grow (w.drewN k) os).drewN q') os' := by
  have hb : Below w.heap.size w (grow (w.drewN k) os) := ⟨rfl, rfl, rfl, by rw [size_grow]; exact Nat.le_add_right _ _, fun g hg => Ssm.heap_grown hg⟩
  exact compare_any A n c s R m d xs T p q ys _ (hX.below hb) (hY.below hb) h1 h2
/-- The closure: its two captured variables hold the schema and the rows. -/
theorem arr1_any (A : Option Addr) (n c : Nat) (s : Sch) (pb lb : Nat) (R : Option Addr) (m d : Nat) (l : List (List Vl)) (w : World) (hB : Sb w pb A n c s.key s.cmp s.del s.sort) (hb : w.cell? ⟨lb, 0, none⟩ = some (.slice R m d)) (hL : Wd.Ls w R m d l) (hs : ∀ r ∈ l, Srt s r) (x y : Nat) (hx : x < m) (hy : y < m) :
    Calls Tryz.prog 61 #[.int .i64 (x : Int), .int .i64 (y : Int), .pointer (some ⟨pb, 0, none⟩), .pointer (some ⟨lb, 0, none⟩)] w fun e w' => e = .returned (.int .i64 (cf s l x y)) ∧ ∃ q os, w' = grow (w.drewN q) os := by
  have mixed := Ssm.mixed
  obtain ⟨c0, c1, c2, c3, c4⟩ := five hB
  have hlen := hL.len
  obtain ⟨b, f, X1, X2, X3, hA, hlb, a0, hV⟩ := hL.at_ x (by omega)
  obtain ⟨b', f', Y1, Y2, Y3, hA', hlb', b0, hU⟩ := hL.at_ y (by omega)
  subst hA
  cases hA'
  have gm : ∀ j, j < m → Srt s (l.getD j []) := fun j hj => hs _ (by
    rw [List.getD_eq_getElem?_getD, List.getElem?_eq_getElem (show j < l.length by omega)]
    exact List.getElem_mem _)
  have bk : ∀ {a : Addr} {v : Value}, w.cell? a = some v → ∀ nq osq, (grow (w.drewN nq) osq).cell? a = some v := fun {a v} hc nq osq => cell_grown (World.block_lt_of_cell? w a hc) hc nq osq
  have C0 := bk c0
  have C1 := bk c1
  have C2 := bk c2
  have C3 := bk c3
  have C4 := bk c4
  have Hb := bk hb
  have A0 := bk a0
  have B0 := bk b0
  have co := Lib.hid (fun k os => compare_grown A n c s X1 X2 X3 _ Y1 Y2 Y3 _ w hV hU (gm x hx) (gm y hy) k os)
  have xm : (x : Int) < (m : Int) := by omega
  have ym : (y : Int) < (m : Int) := by omega
  have e : cm s (l.getD x []) (l.getD y []) = cf s l x y := rfl
  rw [e] at co
  generalize cf s l x y = z at *
  clear bk c0 c1 c2 c3 c4 hb a0 b0 hV hU gm hs hL hB hlen hx hy e hlb hlb'
  go_enter Tryz.func61, Tryz.ntmps61
  go_wp2_with fail
  go_quiet_grown (first | (go_at_call 62; refine Calls.grown_of (co.out _ _)))
  go_wp2_with fail
  go_ret
  exact ⟨rfl, nq, osq, rfl⟩
end Se
end Go.Proofs.YtoibpbnebcoafaaGreat
namespace Go.Proofs.YtoibpbnebcoafaaGreat
set_option maxRecDepth 20000
namespace Bs
/-- A number that may be in a set. -/
def adm (i : Int) : Prop := 0 ≤ i ∧ i < 65536
instance : DecidablePred adm := fun i => inferInstanceAs (Decidable (0 ≤ i ∧ i < 65536))
/-- A list that rises, of numbers that may be in a set. -/
def Ok (X : List Int) : Prop := X.Pairwise (fun a b => a < b) ∧ ∀ x ∈ X, adm x
theorem ok_nil : Ok [] := ⟨List.Pairwise.nil, fun x hx => by simp at hx⟩
theorem ok_tail {a : Int} {X : List Int} (h : Ok (a :: X)) : Ok X := ⟨(List.pairwise_cons.1 h.1).2, fun x hx => h.2 x (by simp [hx])⟩
theorem ok_head {a : Int} {X : List Int} (h : Ok (a :: X)) : ∀ x ∈ X, a < x := (List.pairwise_cons.1 h.1).1
theorem ok_nodup {X : List Int} (h : Ok X) : X.Nodup := List.Pairwise.imp (S := fun a b => a ≠ b) (fun {a b} q e => by omega) h.1
theorem ok_sub {X Y : List Int} (h : Ok Y) (hs : X.Sublist Y) : Ok X := ⟨h.1.sublist hs, fun x hx => h.2 x (hs.subset hx)⟩
theorem ok_ext : ∀ {X Y : List Int}, Ok X → Ok Y → (∀ x, x ∈ X ↔ x ∈ Y) → X = Y
  | [], [], _, _, _ => rfl
  | [], y :: Y, _, _, h => absurd ((h y).2 (by simp)) (by simp)
  | x :: X, [], _, _, h => absurd ((h x).1 (by simp)) (by simp)
  | x :: X, y :: Y, hx, hy, h => by
    have e : x = y := by
      rcases List.mem_cons.1 ((h x).1 (by simp)) with q | q
      · exact q
      · rcases List.mem_cons.1 ((h y).2 (by simp)) with p | p
        · exact p.symm
        · have := ok_head hx y p
          have := ok_head hy x q
          omega
    subst e
    rw [ok_ext (ok_tail hx) (ok_tail hy) fun z => by
      have hz := h z
      rw [List.mem_cons, List.mem_cons] at hz
      constructor
      · intro q
        rcases hz.1 (.inr q) with p | p
        · have := ok_head hx z q; omega
        · exact p
      · intro q
        rcases hz.2 (.inr q) with p | p
        · have := ok_head hy z q; omega
        · exact p]
/-- A number in its place. -/
def ins (i : Int) : List Int → List Int
  | [] => [i]
  | a :: l => if a < i then a :: ins i l else i :: a :: l
def withL (X : List Int) (i : Int) : List Int := if adm i ∧ i ∉ X then ins i X else X
def withoutL (X : List Int) (i : Int) : List Int := X.filter fun x => decide (x ≠ i)
def ofL (l : List Int) : List Int := l.foldl withL []
/-- How many numbers lie below n that may be in a set. -/
def cut (n : Int) : Nat := (min n 65536).toNat
def uptoL (n : Int) : List Int := (List.range (cut n)).map fun (k : Nat) => (k : Int)
def andL (X Y : List Int) : List Int := X.filter fun x => decide (x ∈ Y)
def orL (X Y : List Int) : List Int := Y.foldl withL X
def notL (X : List Int) (n : Int) : List Int := (uptoL n).filter fun x => decide (x ∉ X)
theorem mem_ins (i x : Int) : ∀ X : List Int, x ∈ ins i X ↔ x = i ∨ x ∈ X
  | [] => by simp [ins]
  | a :: X => by
    unfold ins
    split
    · rw [List.mem_cons, mem_ins i x X, List.mem_cons]
      constructor
      · rintro (q | q | q)
        · exact .inr (.inl q)
        · exact .inl q
        · exact .inr (.inr q)
      · rintro (q | q | q)
        · exact .inr (.inl q)
        · exact .inl q
        · exact .inr (.inr q)
    · rw [List.mem_cons]
theorem ins_len (i : Int) : ∀ X : List Int, (ins i X).length = X.length + 1
  | [] => rfl
  | a :: X => by
    unfold ins
    split
    · rw [List.length_cons, ins_len i X, List.length_cons]
    · rw [List.length_cons]
theorem ins_ok {i : Int} (hi : adm i) : ∀ {X : List Int}, Ok X → i ∉ X → Ok (ins i X)
  | [], _, _ => ⟨by simp [ins], fun x hx => by rw [show x = i by simpa [ins] using hx]; exact hi⟩
  | a :: X, h, hn => by
    have hm : ∀ x ∈ ins i (a :: X), adm x := fun x hx => by
      rcases (mem_ins i x _).1 hx with q | q
      · rw [q]; exact hi
      · exact h.2 x q
    refine ⟨?_, hm⟩
    unfold ins
    split
    · rename_i q
      refine List.pairwise_cons.2 ⟨fun x hx => ?_, (ins_ok hi (ok_tail h) (fun p => hn (by simp [p]))).1⟩
      rcases (mem_ins i x X).1 hx with p | p
      · omega
      · exact ok_head h x p
    · rename_i q
      have hne : a ≠ i := fun e => hn (by simp [e])
      refine List.pairwise_cons.2 ⟨fun x hx => ?_, h.1⟩
      rcases List.mem_cons.1 hx with p | p
      · omega
      · have := ok_head h x p; omega
theorem with_ok {X : List Int} (h : Ok X) (i : Int) : Ok (withL X i) := by
  unfold withL
  split
  · rename_i q; exact ins_ok q.1 h q.2
  · exact h
theorem mem_with (X : List Int) (i x : Int) : x ∈ withL X i ↔ x ∈ X ∨ (x = i ∧ adm i) := by
  unfold withL
  by_cases q : adm i ∧ i ∉ X
  · rw [if_pos q, mem_ins]
    exact ⟨fun h => h.elim (fun e => .inr ⟨e, q.1⟩) .inl, fun h => h.elim .inr fun e => .inl e.1⟩
  · rw [if_neg q]
    refine ⟨.inl, fun h => h.elim id fun e => ?_⟩
    rcases Classical.em (i ∈ X) with p | p
    · rw [e.1]; exact p
    · exact absurd ⟨e.2, p⟩ q
theorem with_len (X : List Int) (i : Int) : (withL X i).length = X.length + if adm i ∧ i ∉ X then 1 else 0 := by
  unfold withL
  split
  · rw [ins_len]
  · rfl
theorem without_ok {X : List Int} (h : Ok X) (i : Int) : Ok (withoutL X i) := ok_sub h List.filter_sublist
theorem mem_without (X : List Int) (i x : Int) : x ∈ withoutL X i ↔ x ∈ X ∧ x ≠ i := by simp [withoutL]
theorem fold_ok : ∀ (l X : List Int), Ok X → Ok (l.foldl withL X)
  | [], _, h => h
  | i :: l, _, h => fold_ok l _ (with_ok h i)
theorem mem_fold : ∀ (l : List Int) (X : List Int) (x : Int), x ∈ l.foldl withL X ↔ x ∈ X ∨ (x ∈ l ∧ adm x)
  | [], _, _ => by simp
  | i :: l, X, x => by
    rw [List.foldl_cons, mem_fold l, mem_with, List.mem_cons]
    constructor
    · rintro ((q | ⟨rfl, q⟩) | ⟨q, p⟩)
      · exact .inl q
      · exact .inr ⟨.inl rfl, q⟩
      · exact .inr ⟨.inr q, p⟩
    · rintro (q | ⟨rfl | q, p⟩)
      · exact .inl (.inl q)
      · exact .inl (.inr ⟨rfl, p⟩)
      · exact .inr ⟨q, p⟩
theorem of_ok (l : List Int) : Ok (ofL l) := fold_ok l [] ok_nil
theorem mem_of (l : List Int) (x : Int) : x ∈ ofL l ↔ x ∈ l ∧ adm x := by
  unfold ofL
  rw [mem_fold]
  simp
theorem or_ok {X : List Int} (h : Ok X) (Y : List Int) : Ok (orL X Y) := fold_ok Y X h
theorem mem_or {X Y : List Int} (hY : Ok Y) (x : Int) : x ∈ orL X Y ↔ x ∈ X ∨ x ∈ Y := by
  unfold orL
  rw [mem_fold]
  exact ⟨fun h => h.elim .inl fun q => .inr q.1, fun h => h.elim .inl fun q => .inr ⟨q, hY.2 x q⟩⟩
theorem mem_upto (n x : Int) : x ∈ uptoL n ↔ 0 ≤ x ∧ x < n ∧ x < 65536 := by
  unfold uptoL cut
  rw [List.mem_map]
  constructor
  · rintro ⟨k, hk, rfl⟩
    rw [List.mem_range] at hk
    omega
  · intro h
    exact ⟨x.toNat, by rw [List.mem_range]; omega, by omega⟩
theorem upto_ok (n : Int) : Ok (uptoL n) := by
  refine ⟨?_, fun x hx => ?_⟩
  · unfold uptoL
    rw [List.pairwise_map]
    exact List.Pairwise.imp (fun {a b} h => by omega) List.pairwise_lt_range
  · have := (mem_upto n x).1 hx
    exact ⟨this.1, this.2.2⟩
theorem and_ok {X : List Int} (h : Ok X) (Y : List Int) : Ok (andL X Y) := ok_sub h List.filter_sublist
theorem mem_and (X Y : List Int) (x : Int) : x ∈ andL X Y ↔ x ∈ X ∧ x ∈ Y := by simp [andL]
theorem not_ok (X : List Int) (n : Int) : Ok (notL X n) := ok_sub (upto_ok n) List.filter_sublist
theorem mem_not (X : List Int) (n x : Int) : x ∈ notL X n ↔ (0 ≤ x ∧ x < n ∧ x < 65536) ∧ x ∉ X := by
  unfold notL
  rw [List.mem_filter, mem_upto]
  simp
theorem parts (p : Int → Bool) : ∀ l : List Int, l.length = (l.filter p).length + (l.filter fun x => !p x).length
  | [] => rfl
  | a :: l => by
    have := parts p l
    rw [List.filter_cons, List.filter_cons]
    by_cases q : p a = true
    · simp [q]; omega
    · simp [q]; omega
/-- The counts of two sets. -/
theorem fold_len : ∀ {Y : List Int} (_ : Y.Nodup) (_ : ∀ y ∈ Y, adm y) (X : List Int), (Y.foldl withL X).length = X.length + (Y.filter fun y => decide (y ∉ X)).length
  | [], _, _, X => by simp
  | y :: Y, hn, ha, X => by
    rw [List.nodup_cons] at hn
    rw [List.foldl_cons, fold_len hn.2 (fun z hz => ha z (by simp [hz])), with_len]
    have hf : (Y.filter fun z => decide (z ∉ withL X y)) = Y.filter fun z => decide (z ∉ X) := by
      refine List.filter_congr fun z hz => ?_
      have hzy : z ≠ y := fun e => hn.1 (by rw [← e]; exact hz)
      have : z ∈ withL X y ↔ z ∈ X := by rw [mem_with]; exact ⟨fun h => h.elim id fun e => absurd e.1 hzy, .inl⟩
      simp [this]
    rw [hf, List.filter_cons]
    by_cases q : y ∈ X
    · simp [q]
    · simp [q, ha y (by simp)]
      omega
theorem len_or {X Y : List Int} (hX : Ok X) (hY : Ok Y) : (andL X Y).length + (orL X Y).length = X.length + Y.length := by
  have h1 : andL X Y = Y.filter fun y => decide (y ∈ X) := ok_ext (and_ok hX Y) (ok_sub hY List.filter_sublist) fun x => by rw [mem_and, List.mem_filter]; simp [and_comm]
  have h2 := fold_len (ok_nodup hY) hY.2 X
  unfold orL
  rw [h2, h1]
  have h3 := parts (fun y => decide (y ∈ X)) Y
  have h4 : (Y.filter fun y => !decide (y ∈ X)) = Y.filter fun y => decide (y ∉ X) := List.filter_congr fun z _ => by simp
  rw [h4] at h3
  omega
theorem not_and {X Y : List Int} (n : Int) : notL (andL X Y) n = orL (notL X n) (notL Y n) :=
  ok_ext (not_ok _ _) (or_ok (not_ok _ _) _) fun x => by
    rw [mem_not, mem_and, mem_or (not_ok _ _), mem_not, mem_not]
    constructor
    · rintro ⟨h, q⟩
      by_cases p : x ∈ X
      · exact .inr ⟨h, fun r => q ⟨p, r⟩⟩
      · exact .inl ⟨h, p⟩
    · rintro (⟨h, q⟩ | ⟨h, q⟩)
      · exact ⟨h, fun p => q p.1⟩
      · exact ⟨h, fun p => q p.2⟩
theorem not_or {X Y : List Int} (hY : Ok Y) (n : Int) : notL (orL X Y) n = andL (notL X n) (notL Y n) :=
  ok_ext (not_ok _ _) (and_ok (not_ok _ _) _) fun x => by
    rw [mem_not, mem_or hY, mem_and, mem_not, mem_not]
    exact ⟨fun ⟨h, q⟩ => ⟨⟨h, fun p => q (.inl p)⟩, h, fun p => q (.inr p)⟩, fun ⟨⟨h, q⟩, _, p⟩ => ⟨h, fun r => r.elim q p⟩⟩
theorem spread {X Y Z : List Int} (hX : Ok X) (hZ : Ok Z) : andL X (orL Y Z) = orL (andL X Y) (andL X Z) :=
  ok_ext (and_ok hX _) (or_ok (and_ok hX _) _) fun x => by
    rw [mem_and, mem_or hZ, mem_or (and_ok hX _), mem_and, mem_and]
    exact ⟨fun ⟨h, q⟩ => q.elim (fun p => .inl ⟨h, p⟩) fun p => .inr ⟨h, p⟩, fun q => q.elim (fun p => ⟨p.1, .inl p.2⟩) fun p => ⟨p.1, .inr p.2⟩⟩
theorem twice {X : List Int} (hX : Ok X) (n : Int) : notL (notL X n) n = andL X (uptoL n) :=
  ok_ext (not_ok _ _) (and_ok hX _) fun x => by
    rw [mem_not, mem_not, mem_and, mem_upto]
    exact ⟨fun ⟨h, q⟩ => ⟨Classical.byContradiction fun p => q ⟨h, p⟩, h⟩, fun ⟨h, q⟩ => ⟨q, fun p => p.2 h⟩⟩
theorem apart (X : List Int) (n : Int) : andL (notL X n) X = [] := by
  unfold andL
  rw [List.filter_eq_nil_iff]
  intro x hx
  have := ((mem_not X n x).1 hx).2
  simpa using this
theorem or_nil {X : List Int} (hX : Ok X) : orL [] X = X := ok_ext (or_ok ok_nil _) hX fun x => by rw [mem_or hX]; simp
theorem and_nil (X : List Int) : andL [] X = [] := rfl
theorem without_len {X : List Int} (hX : Ok X) (i : Int) : (withoutL X i).length + (if i ∈ X then 1 else 0) = X.length := by
  have h := parts (fun x => decide (x ≠ i)) X
  have h1 : (X.filter fun x => !decide (x ≠ i)).length = if i ∈ X then 1 else 0 := by
    have e : (X.filter fun x => !decide (x ≠ i)) = X.filter fun x => x == i := List.filter_congr fun z _ => by by_cases q : z = i <;> simp [q]
    rw [e]
    have := List.Nodup.count (a := i) (ok_nodup hX)
    rw [← this, List.count_eq_length_filter]
  unfold withoutL
  omega
end Bs
end Go.Proofs.YtoibpbnebcoafaaGreat
namespace Go.Proofs.YtoibpbnebcoafaaGreat
set_option maxRecDepth 20000
namespace Co
open Va (Vl May ord null)
open Sc (tr tr_yes tr_no tr_iff)
open Dc
theorem all_set {l : List Int} {k : Nat} (hk : k ≤ 65536) (h : ∀ x ∈ l, 0 ≤ x ∧ x < 65536) : Bs.ofL l = Bs.uptoL (k : Int) ↔ (∀ x ∈ l, x < (k : Int)) ∧ ∀ j : Nat, j < k → (j : Int) ∈ l := by
  constructor
  · intro e
    refine ⟨fun x hx => ?_, fun j hj => ?_⟩
    · have h1 : x ∈ Bs.ofL l := (Bs.mem_of l x).2 ⟨hx, h x hx⟩
      rw [e] at h1
      exact ((Bs.mem_upto _ _).1 h1).2.1
    · have h1 : (j : Int) ∈ Bs.uptoL (k : Int) := (Bs.mem_upto _ _).2 ⟨by omega, by omega, by omega⟩
      rw [← e] at h1
      exact ((Bs.mem_of l _).1 h1).1
  · rintro ⟨h1, h2⟩
    refine Bs.ok_ext (Bs.of_ok l) (Bs.upto_ok _) fun x => ?_
    rw [Bs.mem_of, Bs.mem_upto]
    constructor
    · rintro ⟨a, b⟩
      exact ⟨b.1, h1 x a, b.2⟩
    · rintro ⟨a, b, c⟩
      have := h2 x.toNat (by omega)
      rw [Int.toNat_of_nonneg a] at this
      exact ⟨this, a, c⟩
theorem un_lt (C : Col) (hd : C.dict.length ≤ 1000) : ∀ x ∈ un C, 0 ≤ x ∧ x < 65536 := by
  intro x hx
  unfold un Bc.unL at hx
  split at hx
  · have h1 := Bt.toD_inR _ _ _ x hx
    have h2 : wdt C.dict ≤ 10 := (Bc.wid_le 10 ((C.dict.length : Int) - 1)).2 (by simp; omega)
    rw [Int.toNat_natCast] at h1
    have h3 := Bt.pup h2
    rw [show (2 : Int) ^ 10 = 1024 by decide] at h3
    exact ⟨h1.1, by omega⟩
  · cases hx
/-- What unpack looks at. -/
theorem valid_iff {C : Col} (hd : C.dict.length ≤ 1000) : Valid C ↔ Ris C.dict ∧ Bc.unE C.ids C.n (wdt C.dict) = 0 ∧ Bs.ofL (un C) = Bs.uptoL (C.dict.length : Int) := by
  rw [all_set (by omega) (un_lt C hd)]
  constructor
  · intro h
    exact ⟨h.ris, h.un0, h.lt, h.all⟩
  · rintro ⟨h1, h2, h3, h4⟩
    obtain ⟨N, W, hn, _, _, hN, _⟩ := Bc.unE_inv h2
    exact ⟨by omega, by omega, h1, h2, h3, h4⟩
theorem nums_4096 (C : Col) : (nums C).length ≤ 4096 := by
  by_cases h : Valid C
  · have h1 := nums_len h
    have h2 := h.n1
    omega
  · rw [nums_no h]
    simp
theorem mem_rng {C : Col} {lo hi x : Int} : x ∈ rng C lo hi ↔ ∃ k : Nat, x = (k : Int) ∧ k < (nums C).length ∧ lo ≤ (nums C).getD k 0 ∧ (nums C).getD k 0 < hi := by
  unfold rng
  simp only [List.mem_map, List.mem_filter, List.mem_range, decide_eq_true_eq]
  constructor
  · rintro ⟨k, ⟨h1, h2, h3⟩, rfl⟩
    exact ⟨k, rfl, h1, h2, h3⟩
  · rintro ⟨k, rfl, h1, h2, h3⟩
    exact ⟨k, ⟨h1, h2, h3⟩, rfl⟩
theorem rng_ok (C : Col) (lo hi : Int) : Bs.Ok (rng C lo hi) := by
  refine ⟨?_, fun x hx => ?_⟩
  · unfold rng
    rw [List.pairwise_map]
    refine List.Pairwise.imp (fun {a b} h => ?_) ((List.pairwise_lt_range (n := (nums C).length)).sublist List.filter_sublist)
    omega
  · obtain ⟨k, rfl, h1, _⟩ := mem_rng.1 hx
    have := nums_4096 C
    exact ⟨by omega, by omega⟩
theorem of_rng (C : Col) (lo hi : Int) : Bs.ofL (rng C lo hi) = rng C lo hi :=
  Bs.ok_ext (Bs.of_ok _) (rng_ok C lo hi) fun x => by
    rw [Bs.mem_of]
    exact ⟨fun h => h.1, fun h => ⟨h, (rng_ok C lo hi).2 x h⟩⟩
theorem rng_no {C : Col} (h : ¬ Valid C) (lo hi : Int) : rng C lo hi = [] := by
  unfold rng
  rw [nums_no h]
  rfl
theorem values_no {C : Col} (h : ¬ Valid C) : values C = [] := by
  unfold values
  rw [nums_no h]
  rfl
end Co
end Go.Proofs.YtoibpbnebcoafaaGreat
