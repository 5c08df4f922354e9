/- Package journal: Get of the bytes of an entry that may be. What open of package frame does: the frame that bytes begin with; and bytes.Equal. -/
import Derived.Laws.BytesArg
import Derived.Deep.RegionWith
import Derived.Deep.DeepCutAuto
import Derived.Test.YtljgalleiemaaaaPk16
import Derived.Test.YtljgalleiemaaaaPk18
import Derived.Test.YtljgalleiemaaaaPk17
import Derived.Test.YtljgalleiemaaaaPk03
namespace Go.Proofs.Ytljgalleiemaaaa
set_option maxRecDepth 20000
open Go.RowKit
namespace Jr
open Jo (En May Wf Rg nums)
open Wd (Bx Sl Row)
open Nc
/-- An entry's numbers; those of which the first k were read, beside the kind. -/
def en (x : En) : List Int := [x.kind, x.part, x.id, x.st, x.en, x.size, x.sum]
def fl (x : En) (k : Nat) : List Int := (List.range 7).map fun i => if i = 0 ∨ i ∈ (idx x.kind).take k then (en x).getD i 0 else 0
theorem fl_len (x : En) (k : Nat) : (fl x k).length = 7 := by simp [fl]
theorem fl_get (x : En) (k i : Nat) (h : i < 7) : (fl x k)[i]? = some (if i = 0 ∨ i ∈ (idx x.kind).take k then (en x).getD i 0 else 0) := by
  unfold fl
  rw [List.getElem?_map, List.getElem?_range h]
  rfl
theorem fl_zero (x : En) : fl x 0 = [x.kind, 0, 0, 0, 0, 0, 0] := by simp [fl, List.range_succ, en]
theorem en_num {x : En} {k : Nat} (h : k < (idx x.kind).length) : (en x).getD ((idx x.kind).getD k 0) 0 = (nums x).getD k 0 := by
  have h1 := idx_num h
  have h2 : (Jo.ev x)[(idx x.kind).getD k 0]? = ((en x)[(idx x.kind).getD k 0]?).map (Value.int .i64) := by
    rw [← List.getElem?_map]
    rfl
  rw [h2] at h1
  rw [List.getD_eq_getElem?_getD]
  cases he : (en x)[(idx x.kind).getD k 0]? with
  | none => rw [he] at h1; simp at h1
  | some v =>
    rw [he] at h1
    simp only [Option.map_some, Option.some.injEq, Value.int.injEq, true_and] at h1
    rw [Option.getD_some, h1]
theorem fl_next {x : En} {k : Nat} (h : k < (idx x.kind).length) : fl x (k + 1) = (fl x k).set ((idx x.kind).getD k 0) ((nums x).getD k 0) := by
  have hl := idx_lt h
  have hn := en_num h
  have ht : (idx x.kind).take (k + 1) = (idx x.kind).take k ++ [(idx x.kind).getD k 0] := by
    rw [List.take_succ_eq_append_getElem h, List.getD_eq_getElem?_getD, List.getElem?_eq_getElem h]
    rfl
  obtain ⟨o, ho⟩ : ∃ o, o = (idx x.kind).getD k 0 := ⟨_, rfl⟩
  rw [← ho] at hl hn ht ⊢
  refine List.ext_getElem? fun i => ?_
  rw [List.getElem?_set]
  by_cases hi : i < 7
  · rw [fl_get x _ i hi, fl_get x _ i hi, ht, fl_len]
    by_cases e : o = i
    · subst e
      rw [if_pos rfl, if_pos hl, if_pos (Or.inr (by simp)), hn]
    · rw [if_neg e]
      have : i ∈ List.take k (idx x.kind) ++ [o] ↔ i ∈ List.take k (idx x.kind) := by
        simp only [List.mem_append, List.mem_singleton]
        constructor
        · rintro (z | z)
          · exact z
          · exact absurd z.symm e
        · exact .inl
      simp only [this]
  · rw [List.getElem?_eq_none (by rw [fl_len]; omega), if_neg (by omega), List.getElem?_eq_none (by rw [fl_len]; omega)]
theorem fl_all {x : En} (hx : May x) : fl x (idx x.kind).length = en x := by
  have hr : ∀ i, i < 7 → ¬ (i = 0 ∨ i ∈ idx x.kind) → (en x).getD i 0 = 0 := by
    intro i hi h
    unfold idx at h
    rcases hx.2 with ⟨k, _⟩ | ⟨k, z1, z2, z3, z4⟩ | ⟨k, z1, _, _, z3, z4⟩
    · rw [if_pos k] at h
      simp at h
      omega
    · rw [if_neg (by omega), if_neg (by omega)] at h
      simp at h
      match i, hi with
      | 0, _ => omega
      | 1, _ => omega
      | 2, _ => omega
      | 3, _ => exact z1
      | 4, _ => exact z2
      | 5, _ => exact z3
      | 6, _ => exact z4
    · rw [if_neg (by omega), if_pos k] at h
      simp at h
      match i, hi with
      | 0, _ => omega
      | 1, _ => omega
      | 2, _ => omega
      | 3, _ => exact z1
      | 4, _ => omega
      | 5, _ => exact z3
      | 6, _ => exact z4
  refine List.ext_getElem? fun i => ?_
  by_cases hi : i < 7
  · rw [fl_get x _ i hi, List.take_length]
    have e : (en x)[i]? = some ((en x).getD i 0) := by
      rw [List.getD_eq_getElem?_getD, List.getElem?_eq_getElem (show i < (en x).length from hi)]
      rfl
    rw [e]
    split
    · rfl
    · rename_i z
      rw [hr i hi z]
  · rw [List.getElem?_eq_none (by rw [fl_len]; omega), List.getElem?_eq_none (by simp [en]; omega)]
/-- The bytes of the numbers from the k-th on. -/
def rk (x : En) (k : Nat) : List Int := ((nums x).drop k).flatMap Nm.vd
theorem rk_zero (x : En) : rk x 0 = Jo.put x := rfl
theorem rk_next {x : En} {k : Nat} (h : k < (nums x).length) : rk x k = Nm.vd ((nums x).getD k 0) ++ rk x (k + 1) := by
  unfold rk
  rw [List.drop_eq_getElem_cons h, List.flatMap_cons, List.getD_eq_getElem?_getD, List.getElem?_eq_getElem h]
  rfl
theorem rk_all (x : En) : rk x (nums x).length = [] := by unfold rk; rw [List.drop_length]; rfl
theorem rk_byt {x : En} (hx : May x) (k : Nat) : Nm.Byt (rk x k) := Jo.flat_byt fun n hn => Jo.nums_in hx n (List.mem_of_mem_drop hn)
theorem get_num {x : En} (hx : May x) {k : Nat} (h : k < (nums x).length) : Nm.getL (rk x k) = ((nums x).getD k 0, ((Nm.vd ((nums x).getD k 0)).length : Int), 0) := by
  rw [rk_next h]
  have hin := Jo.nums_in hx ((nums x).getD k 0) (by rw [List.getD_eq_getElem?_getD, List.getElem?_eq_getElem h]; exact List.getElem_mem _)
  exact Lw.getL_vd _ _ hin.1 (by omega)
theorem nums_pos (x : En) : 0 < (nums x).length := by simp [nums]
/-- The round's invariant. -/
structure GI (w0 wr : World) (g c m : Nat) (x : En) (k : Nat) (A : Option Addr) (n d : Nat) : Prop where
  sl : Sl w0 .u8 A n d (rk x k)
  row : Row wr (w0.heap.size + 1) .i64 32 (fl x k)
  res : Bx wr w0.heap.size 32 #[.int .i64 0, .int .i64 0, .int .i64 0, .int .i64 0, .int .i64 0, .int .i64 0, .int .i64 0]
  fp : Fp wr (w0.heap.size + 2) (w0.heap.size + 1) g c (idx x.kind)
  bel : Below w0.heap.size w0 wr
theorem sl_cut {w : World} {b o n c : Nat} {x : En} {k : Nat} (h : Sl w .u8 (some ⟨b, o, none⟩) n c (rk x k)) (hk : k < (nums x).length) (q : Nat) (hq : q = (Nm.vd ((nums x).getD k 0)).length) : q ≤ n ∧ Sl w .u8 (if c = q then some ⟨b, o, none⟩ else some ⟨b, o + q, none⟩) (n - q) (c - q) (rk x (k + 1)) := by
  have hl := h.len
  rw [rk_next hk, List.length_append, ← hq] at hl
  have h2 := h.cut q (by omega)
  rw [rk_next hk, hq, List.drop_left] at h2
  rw [← hq] at h2
  refine ⟨by omega, ?_⟩
  rw [Option.map_some, Addr.add_lit] at h2
  exact h2
theorem GI.step {w0 wr : World} {g c m : Nat} {x : En} {k : Nat} {A A' : Option Addr} {n d n' d' : Nat} {z : Int} {o : Nat} (h : GI w0 wr g c m x k A n d) (hk : k < (idx x.kind).length) (ho : o = (idx x.kind).getD k 0) (hz : z = (nums x).getD k 0) (hs : Sl w0 .u8 A' n' d' (rk x (k + 1))) : GI w0 (wr.setCell ⟨w0.heap.size + 1, o, none⟩ (.int .i64 z)).drew g c m x (k + 1) A' n' d' := by
  have hne : g ≠ w0.heap.size + 1 := by have := h.fp.lo; omega
  refine ⟨hs, ?_, ?_, ?_, ?_⟩
  · rw [fl_next hk, ← ho, ← hz]
    exact (h.row.set o z).drew
  · exact (h.res.other (a := ⟨w0.heap.size + 1, o, none⟩) (by simp) _).drew
  · exact h.fp.other (by simp [World.setCell]) (Below.heap_setCell _ _ _ _ hne)
  · exact (h.bel.setCell (p := ⟨w0.heap.size + 1, o, none⟩) (by simp) _).drew
set_option maxHeartbeats 8000000 in
theorem get_ok (A : Option Addr) (n c : Nat) (x : En) (w : World) (hx : May x) (hS : Sl w .u8 A n c (Jo.put x)) : Calls Try.prog 44 #[.slice A n c] w fun e w' => e = .returned (.tuple #[.agg #[.int .i64 x.kind, .int .i64 x.part, .int .i64 x.id, .int .i64 x.st, .int .i64 x.en, .int .i64 x.size, .int .i64 x.sum], .int .i64 0]) ∧ Below w.heap.size w w' := by
  have b1 := alS (alS (Below.refl w.heap.size w) (.cells #[.int .i64 0, .int .i64 0, .int .i64 0, .int .i64 0, .int .i64 0, .int .i64 0, .int .i64 0] 32)) (.cells #[.int .i64 0, .int .i64 0, .int .i64 0, .int .i64 0, .int .i64 0, .int .i64 0, .int .i64 0] 32)
  have z1 : (w.alloc (.cells #[.int .i64 0, .int .i64 0, .int .i64 0, .int .i64 0, .int .i64 0, .int .i64 0, .int .i64 0] 32)).heap.size = w.heap.size + 1 := by simp
  have rb := (Bx.new w 32 #[.int .i64 0, .int .i64 0, .int .i64 0, .int .i64 0, .int .i64 0, .int .i64 0, .int .i64 0]).alloc (.cells #[.int .i64 0, .int .i64 0, .int .i64 0, .int .i64 0, .int .i64 0, .int .i64 0, .int .i64 0] 32)
  have xb := Bx.new (w.alloc (.cells #[.int .i64 0, .int .i64 0, .int .i64 0, .int .i64 0, .int .i64 0, .int .i64 0, .int .i64 0] 32)) 32 #[.int .i64 0, .int .i64 0, .int .i64 0, .int .i64 0, .int .i64 0, .int .i64 0, .int .i64 0]
  rw [z1] at xb
  obtain ⟨w1, hw1⟩ : ∃ w1, w1 = (w.alloc (.cells #[.int .i64 0, .int .i64 0, .int .i64 0, .int .i64 0, .int .i64 0, .int .i64 0, .int .i64 0] 32)).alloc (.cells #[.int .i64 0, .int .i64 0, .int .i64 0, .int .i64 0, .int .i64 0, .int .i64 0, .int .i64 0] 32) := ⟨_, rfl⟩
  have e1 : w1.heap.size = w.heap.size + 2 := by rw [hw1]; simp
  rw [← hw1] at b1 rb xb
  rw [← rk_zero] at hS
  have gk := get_num hx (k := 0) (nums_pos x)
  rw [show (nums x).getD 0 0 = x.kind from rfl] at gk
  have Cg := getLen_any A n c (rk x 0) w1 (hS.below b1) (rk_byt hx 0)
  rw [gk] at Cg
  unfold three at Cg
  have Cg := Lib.hid Cg
  obtain ⟨f0, e0⟩ := And.intro (xb.free 0) (xb.cell 0)
  have xr : Row w1 (w.heap.size + 1) .i64 32 [0, 0, 0, 0, 0, 0, 0] := xb
  have xl := xb.lt
  obtain ⟨w2, hw2⟩ : ∃ w2, w2 = w1.setCell ⟨w.heap.size + 1, 0, none⟩ (.int .i64 x.kind) := ⟨_, rfl⟩
  have xr2 : Row w2 (w.heap.size + 1) .i64 32 (fl x 0) := by
    rw [hw2, fl_zero]
    exact xr.set 0 x.kind
  have rb2 : Bx w2 w.heap.size 32 #[.int .i64 0, .int .i64 0, .int .i64 0, .int .i64 0, .int .i64 0, .int .i64 0, .int .i64 0] := by
    rw [hw2]
    exact rb.other (by simp) _
  have b2 : Below w.heap.size w w2 := by
    rw [hw2]
    exact b1.setCell (by simp) _
  have e2 : w2.heap.size = w.heap.size + 2 := by rw [hw2, ← e1]; simp [World.setCell]
  have Cf := Lib.hid (fields_any (w.heap.size + 1) x.kind w2 (xr2.cell 0 (by rw [fl_len]; omega)) (by omega))
  have HX := Lib.hid hx
  have HS := Lib.hid hS
  have XR2 := Lib.hid xr2
  have RB2 := Lib.hid rb2
  have B2 := Lib.hid b2
  have Hw1 := Lib.hid hw1
  have Hw2 := Lib.hid hw2
  have E2 := Lib.hid e2
  clear b1 z1 rb xb hw1 e1 gk xr hw2 xr2 rb2 b2 e2 hx hS
  go_enter Try.func44, Try.ntmps44
  go_upto_region 2 with fail
  rw [← Hw1.out]
  go_wp2_with fail
  refine Cg.out.mono ?_
  rintro e w' ⟨rfl, rfl⟩
  go_upto_region 3 with fail
  rw [← Hw2.out]
  clear f0 e0 xl
  go_wp2_with fail
  refine Cf.out.mono ?_
  rintro e w3 ⟨g, cc, rfl, hF, hB3⟩
  obtain ⟨m, hm⟩ : ∃ m, m = (idx x.kind).length := ⟨_, rfl⟩
  have hcap := hF.cap
  rw [E2.out] at hF
  rw [← hm] at hcap ⊢
  have hm7 : m ≤ 7 := by rw [hm, idx_len]; exact Jo.nums_len x
  have I3 : Hid (GI w w3 g cc m x 0 A n c) := Lib.hid ⟨HS.out, XR2.out.below XR2.out.lt hB3, RB2.out.below RB2.out.lt hB3, hF, B2.out.trans (hB3.mono B2.out.size)⟩
  have Hm := Lib.hid hm
  have Hmn := Lib.hid (hm.trans (idx_len x))
  clear hF hB3 hm
  go_wp2_with fail
  go_loopw [0, 6, 7, 8, 9, 19] (fun v _ _ _ _ i wr => ∃ k : Nat, i = .int .i64 k ∧ k ≤ m ∧ ∃ A' n' d', v = .slice A' n' d' ∧ Hid (GI w wr g cc m x k A' n' d')) (fun _ _ _ _ _ i _ => m - (intOf i).toNat)
  case atStart => exact ⟨0, rfl, Nat.zero_le _, A, n, c, rfl, I3⟩
  case round =>
    obtain ⟨k, rfl, hk, A', n', d', rfl, hI⟩ := hrel
    by_cases hlt : k < m
    · have hkI : (k : Int) < (m : Int) := by omega
      have hki : k < (idx x.kind).length := by rw [← Hm.out]; exact hlt
      have hkn : k < (nums x).length := by rw [← Hmn.out]; exact hlt
      have hg := hI.out.fp.at_ k hki
      obtain ⟨o, ho⟩ : ∃ o, o = (idx x.kind).getD k 0 := ⟨_, rfl⟩
      obtain ⟨z, hz⟩ : ∃ z, z = (nums x).getD k 0 := ⟨_, rfl⟩
      obtain ⟨q, hq⟩ : ∃ q, q = (Nm.vd ((nums x).getD k 0)).length := ⟨_, rfl⟩
      have gk := get_num HX.out hkn
      have hq1 := (Nm.vd_len ((nums x).getD k 0)).1
      have hsl0 := hI.out.sl
      have hpos : 0 < (rk x k).length := by rw [rk_next hkn, List.length_append]; omega
      obtain ⟨b0, o0, hA', -, -⟩ := hsl0.rd.some_ hpos
      rw [hA'] at hsl0
      obtain ⟨hqn, hcut⟩ := sl_cut hsl0 hkn q hq
      have Cl := getLen_any A' n' d' (rk x k) wr (hI.out.sl.below hI.out.bel) (rk_byt HX.out k)
      rw [gk, ← hq, ← hz] at Cl
      unfold three at Cl
      rw [← ho] at hg
      rw [← hq] at hq1
      have Cl := Lib.hid Cl
      have hol : o < 7 := by rw [ho]; exact idx_lt hki
      have rc := hI.out.row.cell o (by rw [fl_len]; exact hol)
      have rf := hI.out.row.free o
      have hcap2 := hsl0.cap
      have hmx2 := hsl0.max
      unfold maxLen at hmx2
      have HKI := Lib.hid hki
      have HO := Lib.hid ho
      have HZ := Lib.hid hz
      subst hA'
      clear hkn ho hz hq gk hpos hsl0 hki
      by_cases hdq : d' = q
      · rw [if_pos hdq] at hcut
        subst hdq
        rw [Nat.sub_self, show n' - d' = 0 by omega] at hcut
        have HC := Lib.hid hcut
        clear hcut
        go_wp2_with fail
        refine Cl.out.mono ?_
        rintro e w' ⟨rfl, rfl⟩
        go_upto_region 9 with fail
        go_region
        go_wp2_with fail
        go_roundw
        case rel => exact ⟨k + 1, by go_num, by omega, _, _, _, rfl, Lib.hid (hI.out.step HKI.out HO.out HZ.out HC.out)⟩
        case measure => simp [intOf]; omega
      · rw [if_neg hdq] at hcut
        have HC := Lib.hid hcut
        clear hcut
        go_wp2_with fail
        refine Cl.out.mono ?_
        rintro e w' ⟨rfl, rfl⟩
        go_upto_region 9 with fail
        go_region
        go_wp2_with fail
        go_roundw
        case rel => exact ⟨k + 1, by go_num, by omega, _, _, _, rfl, Lib.hid (hI.out.step HKI.out HO.out HZ.out HC.out)⟩
        case measure => simp [intOf]; omega
    · have hkI : ¬ (k : Int) < (m : Int) := by omega
      obtain rfl : k = m := by omega
      have hs := hI.out.sl
      rw [Hmn.out, rk_all] at hs
      have hn0 : n' = 0 := hs.len
      subst hn0
      have xr : Bx wr (w.heap.size + 1) 32 #[.int .i64 x.kind, .int .i64 x.part, .int .i64 x.id, .int .i64 x.st, .int .i64 x.en, .int .i64 x.size, .int .i64 x.sum] := by
        have := hI.out.row
        rw [Hm.out, fl_all HX.out] at this
        exact this
      have Cm := may_any x wr
      rw [tr_yes HX.out] at Cm
      have Cm := Lib.hid Cm
      have XR := Lib.hid xr
      obtain ⟨x0, x1, x2, x3, x4, x5, x6⟩ := seven xr
      clear hs xr
      go_wp2_with fail
      refine Cm.out.mono ?_
      rintro e w5 ⟨rfl, hB5⟩
      have rb := hI.out.res.below hI.out.res.lt hB5
      have B5 := Lib.hid (hI.out.bel.trans (hB5.mono hI.out.bel.size))
      clear x0 x1 x2 x3 x4 x5 x6
      obtain ⟨x0, x1, x2, x3, x4, x5, x6⟩ := seven (XR.out.below XR.out.lt hB5)
      obtain ⟨d0, d1, d2, d3, d4, d5, d6⟩ := seven rb
      obtain ⟨f0, f1, f2, f3, f4, f5, f6⟩ := And.intro (rb.free 0) (And.intro (rb.free 1) (And.intro (rb.free 2) (And.intro (rb.free 3) (And.intro (rb.free 4) (And.intro (rb.free 5) (rb.free 6))))))
      clear rb hB5
      go_wp2_with fail
      refine bodyPost_ret (v := .tuple #[.agg #[.int .i64 x.kind, .int .i64 x.part, .int .i64 x.id, .int .i64 x.st, .int .i64 x.en, .int .i64 x.size, .int .i64 x.sum], .int .i64 0]) ?_ rfl ⟨rfl, ?_⟩
      · rw [res_cell2 rfl]; go_simp
      · exact ((((((B5.out.setCell (Nat.le_refl _) _).setCell (Nat.le_refl _) _).setCell (Nat.le_refl _) _).setCell (Nat.le_refl _) _).setCell (Nat.le_refl _) _).setCell (Nat.le_refl _) _).setCell (Nat.le_refl _) _
end Jr
end Go.Proofs.Ytljgalleiemaaaa
namespace Go.Proofs.Ytljgalleiemaaaa
set_option maxRecDepth 20000
open Go.RowKit
namespace Fc
open Nc

theorem str_inj : ∀ {xs ys : List Int}, Nm.Byt xs → Nm.Byt ys → xs.map (fun n => UInt8.ofNat n.toNat) = ys.map (fun n => UInt8.ofNat n.toNat) → xs = ys
  | [], [], _, _, _ => rfl
  | [], _ :: _, _, _, h => by simp at h
  | _ :: _, [], _, _, h => by simp at h
  | x :: xs, y :: ys, h1, h2, h => by
    simp only [List.map_cons, List.cons.injEq] at h
    have a1 := h1 x (by simp)
    have a2 := h2 y (by simp)
    have e : x = y := by
      have := congrArg UInt8.toNat h.1
      simp only [UInt8.toNat_ofNat'] at this
      omega
    rw [e, str_inj (fun z hz => h1 z (by simp [hz])) (fun z hz => h2 z (by simp [hz])) h.2]
theorem strOf_eq {xs ys : List Int} (h1 : Nm.Byt xs) (h2 : Nm.Byt ys) : ((strOfNums xs).toList == (strOfNums ys).toList) = decide (xs = ys) := by
  rw [ByteArray.toList_eq, ByteArray.toList_eq, strOfNums_data, strOfNums_data]
  by_cases h : xs = ys
  · subst h; simp
  · rw [decide_eq_false h, beq_eq_false_iff_ne]
    exact fun e => h (str_inj h1 h2 e)

theorem equal_any (A B : Option Addr) (n m c d : Nat) (xs ys : List Int) (w : World) (hA : Wd.Sl w .u8 A n c xs) (hB : Wd.Sl w .u8 B m d ys) (h0 : 0 < n) (h1 : 0 < m) (b1 : Nm.Byt xs) (b2 : Nm.Byt ys) :
    Calls Try.prog 53 #[.slice A n c, .slice B m d] w fun e w' => e = .returned (.bool (decide (xs = ys))) ∧ w = w' := by
  have hl := hA.len
  have hl2 := hB.len
  obtain ⟨b1', o1, rfl, _, h1⟩ := hA.rd.some_ (by omega)
  obtain ⟨b2', o2, rfl, _, h2⟩ := hB.rd.some_ (by omega)
  have k1 := run_convert_bytes_arg (P := Try.prog) w 39 5 Try.underlying39 Try.underlying5 b1' o1 n c xs hl.symm (by rw [hl]; exact h1) 9 Try.underlying9
  have k2 := run_convert_bytes_arg (P := Try.prog) w 39 5 Try.underlying39 Try.underlying5 b2' o2 m d ys hl2.symm (by rw [hl2]; exact h2) 9 Try.underlying9
  have he := strOf_eq b1 b2
  have He := Lib.hid he
  clear he
  generalize strOfNums xs = s at *
  generalize strOfNums ys = t at *
  clear h1 h2 hA hB hl hl2
  rw [← He.out]
  go_enter Try.func53, Try.ntmps53
  go_wp2_with fail
  go_ret
  exact ⟨rfl, rfl⟩

/-- What open tells: the payload's piece of the bytes, and how long the frame is; or that there is none. -/
def OpenOut (A : Option Addr) (n c : Nat) (b : List Int) (w : World) (r : Option (List Int × Nat)) (e : Ending) (w' : World) : Prop :=
  Below w.heap.size w w' ∧ match r with
    | none => e = .returned (.tuple #[.slice none 0 0, .int .i64 0, .bool false])
    | some (p, s) => ∃ A' n' c', e = .returned (.tuple #[.slice A' n' c', .int .i64 (s : Int), .bool true]) ∧ ∀ w0 : World, Wd.Sl w0 .u8 A n c b → Wd.Sl w0 .u8 A' n' c' p

theorem OpenOut.no {A : Option Addr} {n c : Nat} {b : List Int} {w w' : World} (h : Below w.heap.size w w') : OpenOut A n c b w none (.returned (.tuple #[.slice none 0 0, .int .i64 0, .bool false])) w' := ⟨h, rfl⟩

set_option maxHeartbeats 1000000 in
theorem open_any (g : Nat) (A : Option Addr) (n c : Nat) (b : List Int) (w : World) (hT : Tb w g) (hS : Wd.Sl w .u8 A n c b) (hB : Nm.Byt b) (hm : n ≤ 100000000) :
    Calls Try.prog 48 #[.pointer (some ⟨g, 0, none⟩), .slice A n c] w (OpenOut A n c b w (Fr.openF b)) := by
  have C1 := getLen_any A n c b w hS hB
  have Hl := Lib.hid hS.len
  have hc := hS.cap
  have hx := hS.max
  unfold maxLen at hx
  unfold Fr.openF
  by_cases h0 : (Nm.getL b).2.2 ≠ 0 ∨ 65536 < (Nm.getL b).1
  · rw [if_pos h0]
    generalize Nm.getL b = q at *
    obtain ⟨v, k, er⟩ := q
    have C := Lib.hid C1
    clear C1
    by_cases h1 : er = 0
    · subst h1
      have h2 : 65536 < v := by simpa using h0
      clear h0
      go_enter Try.func48, Try.ntmps48
      go_wp2_with fail
      refine C.out.mono ?_
      rintro e w1 ⟨rfl, rfl⟩
      unfold three
      go_wp2_with fail
      go_ret3
      exact OpenOut.no (Below.refl _ _)
    · have hne : (er != 0) = true := by rw [bne_iff_ne]; exact h1
      clear h0
      go_enter Try.func48, Try.ntmps48
      go_wp2_with fail
      refine C.out.mono ?_
      rintro e w1 ⟨rfl, rfl⟩
      unfold three
      go_wp2_with fail
      go_ret3
      exact OpenOut.no (Below.refl _ _)
  · rw [if_neg h0]
    have hz : (Nm.gv b).2.2 = 0 := by
      refine Classical.byContradiction fun q => h0 (.inl ?_)
      unfold Nm.getL
      rw [if_neg q]
      exact q
    obtain ⟨k, u, hgv, k1, k2, k3, u0, u1, _⟩ := Nm.gv_only b hB hz
    have hu : ¬ 9223372036854775807 < u := by
      intro q
      refine h0 (.inl ?_)
      unfold Nm.getL
      rw [hgv]
      simp only [if_pos q]
      decide
    have hg : Nm.getL b = (u, (k : Int), 0) := by
      unfold Nm.getL
      rw [hgv]
      exact if_neg hu
    rw [hg] at C1 h0 ⊢
    have hu2 : u ≤ 65536 := by simp at h0; exact h0
    obtain ⟨N, rfl⟩ := Int.eq_ofNat_of_zero_le u0
    simp only [Int.toNat_natCast] at *
    have hN : N ≤ 65536 := by omega
    clear h0 hz hg hgv hu u0 u1 hu2
    have C := Lib.hid C1
    clear C1
    by_cases h1 : b.length < k + N + 4
    · rw [if_pos h1]
      have hi : (n : Int) < (k : Int) + (N : Int) + 4 := by have := Hl.out; omega
      go_enter Try.func48, Try.ntmps48
      go_wp2_with fail
      refine C.out.mono ?_
      rintro e w1 ⟨rfl, rfl⟩
      unfold three
      go_wp2_with fail
      go_ret3
      exact OpenOut.no (Below.refl _ _)
    · rw [if_neg h1]
      have hi : (k : Int) + (N : Int) + 4 ≤ (n : Int) := by have := Hl.out; omega
      have hSp := hS.mid' k (k + N) (by omega) (by omega) (by omega)
      have hSt := hS.mid' (k + N) (k + N + 4) (by omega) (by omega) (by omega)
      rw [show k + N - k = N by omega] at hSp
      rw [show k + N + 4 - (k + N) = 4 by omega] at hSt
      have hBp : Nm.Byt ((b.drop k).take N) := fun x hx => hB x (List.mem_of_mem_drop (List.mem_of_mem_take hx))
      have hBt : Nm.Byt ((b.drop (k + N)).take 4) := fun x hx => hB x (List.mem_of_mem_drop (List.mem_of_mem_take hx))
      have hall : ∀ w0 : World, Wd.Sl w0 .u8 A n c b → Wd.Sl w0 .u8 (A.map (·.add k)) N (c - k) ((b.drop k).take N) := fun w0 h => by
        have := h.mid' k (k + N) (by omega) (by omega) (by omega)
        rwa [show k + N - k = N by omega] at this
      generalize (b.drop k).take N = p at *
      generalize (b.drop (k + N)).take 4 = t at *
      obtain ⟨β, hβ⟩ : ∃ β, β = decide (Fr.le4 (Fr.sum p) = t) := ⟨_, rfl⟩
      have Ct := Lib.hid fun (w' : World) (hb : Below w.heap.size w w') => tail_any g _ N (c - k) p w' (hT.below hT.lt hb) (hSp.below hb) hBp
      have Ce := Lib.hid fun (w' : World) (hb : Below w.heap.size w w') A5 n5 c5 (h5 : Wd.Sl w' .u8 A5 n5 c5 (Fr.le4 (Fr.sum p))) => (by
        have := equal_any A5 _ n5 4 c5 (c - (k + N)) _ _ w' h5 (hSt.below hb) (by rw [h5.len, Fr.le4_len]; decide) (by decide) (Fr.le4_byt _) hBt
        rw [← hβ] at this
        exact this : Calls Try.prog 53 _ w' fun e w'' => e = .returned (.bool β) ∧ w' = w'')
      clear hSt hBp hBt hT hB
      have HSp := Lib.hid hall
      have Hb := Lib.hid hβ
      obtain ⟨R, hR⟩ : ∃ R, R = (if Fr.le4 (Fr.sum p) = t then some (p, k + N + 4) else none) := ⟨_, rfl⟩
      rw [← hR]
      have HR := Lib.hid hR
      clear hSp hall hβ hS h1 hR
      go_enter Try.func48, Try.ntmps48
      go_wp2_with fail
      refine C.out.mono ?_
      rintro e w1 ⟨rfl, rfl⟩
      unfold three
      go_upto_region 9 with fail
      go_cut [12, 46] (fun u s wx => u = .slice (A.map (·.add k)) N (c - k) ∧ s = .bool (!β) ∧ Below w.heap.size w wx)
      case first =>
        go_region_with (first | (go_at_call 46; refine (Ct.out _ ((Below.refl _ _).drew)).mono ?_; rintro e w2 ⟨A5, n5, c5, rfl, hS5, hB5⟩; have hB5' : Below w.heap.size w w2 := Wd.of_drew hB5) | (go_at_call 53; refine (Ce.out _ hB5' A5 n5 c5 hS5).mono ?_; rintro e w3 ⟨rfl, rfl⟩))
        all_goals (go_wp2_with fail; go_meet; exact ⟨by simp, by simp, hB5'⟩)
      case rest =>
        obtain ⟨rfl, rfl, hb⟩ := hcut
        cases β with
        | false =>
          rw [if_neg (of_decide_eq_false Hb.out.symm)] at HR
          obtain rfl := HR.out
          go_wp2_with fail
          go_ret3
          exact OpenOut.no hb
        | true =>
          rw [if_pos (of_decide_eq_true Hb.out.symm)] at HR
          have e1 : ((k : Int) + (N : Int) + 4) = ((k + N + 4 : Nat) : Int) := by omega
          have E1 := Lib.hid e1
          clear e1
          go_wp2_with fail
          go_ret3
          rw [HR.out]
          refine ⟨hb, _, N, _, ?_, HSp.out⟩
          rw [← E1.out]
          rfl
end Fc
end Go.Proofs.Ytljgalleiemaaaa
