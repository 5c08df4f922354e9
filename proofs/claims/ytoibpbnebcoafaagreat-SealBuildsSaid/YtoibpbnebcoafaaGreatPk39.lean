/- Package seal: Row. Package seal: the table of all rows (read). -/
import Derived.Deep.DeepCutAuto
import Derived.Lib.Hide
import Derived.Test.YtoibpbnebcoafaaGreatPk11
import Derived.Test.YtoibpbnebcoafaaGreatPk15
import Derived.Test.YtoibpbnebcoafaaGreatPk38
namespace Go.Proofs.YtoibpbnebcoafaaGreat
set_option maxRecDepth 20000
open Go.RowKit
namespace Se
open Va (Vl May null)
open Sc (Sch tr tr_yes tr_no tr_iff tr_congr)
open Wd (Cr)
open Co (values nums atv)
/-- Its columns are no greater than may be told. -/
def Lt (os : List Cr) : Prop := ∀ j, j < os.length → (os.getD j default).n ≤ 1000 ∧ (os.getD j default).m ≤ 1000000
theorem v1_null : Wd.V1 null := ⟨by decide, by decide⟩
/-- What a column's row tells is the machine's. -/
theorem v1_at {w : World} {o : Cr} (h : Wd.Cr1 w o) (i : Nat) (hi : i < (values o.C).length) : Wd.V1 ((values o.C).getD i default) := by
  unfold values
  rw [List.getD_eq_getElem?_getD, List.getElem?_map]
  have hi' : i < (nums o.C).length := by rwa [Co.values_len] at hi
  rw [List.getElem?_eq_getElem hi']
  obtain ⟨hv, h0, h1⟩ := Co.nums_in (List.getElem_mem hi')
  obtain ⟨_, _, _, _, _, z⟩ := h.dict.at_ ((nums o.C)[i]).toNat (by omega)
  exact z
/-- The values of row i in the columns. -/
noncomputable def cells (os : List Cr) (i : Int) : List Vl := os.map fun o => (values o.C).getD i.toNat default
theorem cells_len (os : List Cr) (i : Int) : (cells os i).length = os.length := by simp [cells]
theorem cells_get {os : List Cr} {i : Int} {k : Nat} (h : k < os.length) : (cells os i).getD k default = (values (os.getD k default).C).getD i.toNat default := by
  unfold cells
  rw [List.getD_eq_getElem?_getD, List.getElem?_map, List.getElem?_eq_getElem h, List.getD_eq_getElem?_getD (l := os), List.getElem?_eq_getElem h]
  rfl
theorem row_cells {x : Seg} {os : List Cr} {i : Int} (he : x.cols = Wd.cols os) (h : Has x i) : row x i = cells os i := by
  rw [row_yes h, he, Wd.cols, List.map_map]
  rfl
theorem has_iff {x : Seg} {os : List Cr} {i : Int} (he : x.cols = Wd.cols os) : Has x i ↔ (0 ≤ i ∧ i < (x.offs.length : Int)) ∧ ∀ k, k < os.length → i < ((values (os.getD k default).C).length : Int) := by
  unfold Has
  rw [he]
  constructor
  · rintro ⟨h1, h2, h3⟩
    refine ⟨⟨h1, h2⟩, fun k hk => h3 _ ?_⟩
    unfold Wd.cols
    refine List.mem_map.2 ⟨os.getD k default, ?_, rfl⟩
    rw [List.getD_eq_getElem?_getD, List.getElem?_eq_getElem hk]
    exact List.getElem_mem hk
  · rintro ⟨⟨h1, h2⟩, h3⟩
    refine ⟨h1, h2, fun c hc => ?_⟩
    unfold Wd.cols at hc
    obtain ⟨o, ho, rfl⟩ := List.mem_map.1 hc
    obtain ⟨k, hk, rfl⟩ := List.getElem_of_mem ho
    have := h3 k hk
    simpa [List.getD, List.getElem?_eq_getElem hk] using this
theorem mixv {T V : List Vl} {i : Nat} (hi : i < T.length) (hl : V.length = T.length) (h : V.take i = T.take i) : (V.set i (T.getD i default)).take (i + 1) = T.take (i + 1) := by
  rw [List.take_succ_eq_append_getElem (by simp; omega), List.take_succ_eq_append_getElem hi, List.take_set_of_le (Nat.le_refl _), h]
  simp [List.getD, List.getElem?_eq_getElem hi]
set_option maxHeartbeats 8000000 in
theorem row_any (OA : Option Addr) (on oc : Nat) (CA : Option Addr) (cn cc : Nat) (os : List Cr) (x : Seg) (i : Int) (w : World) (hX : Sg w OA on oc CA cn cc os x) (hlt : Lt os) (hi : Bi.I64 i) (hcn : cn ≤ 1000000) :
    Calls Tryz.prog 21 #[.agg #[.int .i64 x.part, .int .i64 x.id, .int .i64 x.st, .int .i64 x.en, .slice OA on oc, .slice CA cn cc], .int .i64 i] w (Cx.OutV w (row x i)) := by
  obtain ⟨j0, hj, gz0, gz1, gz2⟩ := info_parts Wd.info_vl
  obtain ⟨zv, hzv⟩ : ∃ zv : Array Value, zv = (Wd.flatV (List.replicate cn null)).toArray := ⟨_, rfl⟩
  have hmv : ∀ X : World, (Instr.makeSlice 45 (.int .i64 (cn : Int)) (.int .i64 (cn : Int))).run Tryz.prog X = .ok (.slice (some ⟨X.heap.size, 0, none⟩) cn cn) (X.alloc (.cells zv 56)) := fun X => by
    have := run_make (P := Tryz.prog) X 45 56 j0 _ Tryz.underlying45 hj gz0 .i64 .i64 (cn : Int) (cn : Int) (by omega) (by omega) (by rw [gz2]; omega) (by omega)
    rw [this, hzv, gz1, Int.toNat_natCast, ← Wd.made_null]
  have rowv := Lib.hid fun X : World => (by rw [hzv]; exact Wd.Bx.new X _ _ : Wd.RowV (X.alloc (.cells zv 56)) X.heap.size (List.replicate cn null))
  obtain ⟨w1, hw1⟩ : ∃ w1, w1 = w.alloc (.cells #[.int .i64 x.part, .int .i64 x.id, .int .i64 x.st, .int .i64 x.en, .slice OA on oc, .slice CA cn cc] 28) := ⟨_, rfl⟩
  have hz := Lib.hid (show w1.heap.size = w.heap.size + 1 by rw [hw1]; simp)
  have hb1 : Below w.heap.size w w1 := by rw [hw1]; exact (Below.refl _ _).alloc (Nat.le_refl _) _
  have x1 : Gb w1 w.heap.size x.part x.id x.st x.en OA on oc CA cn cc := by rw [hw1]; exact Gb.new _ _ _ _ _ _ _ _ _ _ _
  obtain ⟨d0, d1, d2, d3, d4, d5⟩ := x1.six
  have Hon := Lib.hid hX.offs.len
  have Hcn := Lib.hid hX.cols.len
  have HX := Lib.hid hX
  have HX1 := Lib.hid x1
  have Hb1 := Lib.hid hb1
  have Hw1 := Lib.hid hw1
  have Cw := Lib.hid within_any
  have hoc := hX.offs.cap
  have hox := hX.offs.max
  unfold maxLen at hox
  obtain ⟨r, hr⟩ : ∃ r, r = row x i := ⟨_, rfl⟩
  rw [← hr]
  have Hr := Lib.hid hr
  have Hzv := Lib.hid hzv
  clear hr hw1 hX x1 hb1 hzv
  go_enter Tryz.func21, Tryz.ntmps21
  by_cases hin : 0 ≤ i ∧ i ≤ (on : Int) - 1
  case neg =>
    have t1 := Lib.hid (tr_no hin)
    have t2 := Lib.hid (show r = [] by rw [Hr.out]; exact row_no fun z => hin ⟨z.1, by have := z.2.1; have := Hon.out; omega⟩)
    clear hin
    go_wp2_with fail
    refine (Cw.out _ _ _ _).mono ?_
    rintro e w2 ⟨rfl, rfl⟩
    rw [t1.out]
    rw [← Hw1.out]
    go_wp2_with fail
    go_ret
    exact ⟨none, 0, 0, rfl, by rw [t2.out]; exact Wd.Vs.none_ _, Hb1.out⟩
  have t1 := Lib.hid (tr_yes hin)
  obtain ⟨hi0, hi1⟩ := hin
  go_wp2_with fail
  refine (Cw.out _ _ _ _).mono ?_
  rintro e w2 ⟨rfl, rfl⟩
  rw [t1.out]
  rw [← Hw1.out]
  clear Cw t1
  have hzl : w.heap.size < w1.heap.size := by have := hz.out; omega
  have e5 := ((HX1.out.alloc (.cells zv 56)).cell 5)
  have I0 := Lib.hid (And.intro (rowv.out w1) ((Below.refl w1.heap.size w1).alloc (Nat.le_refl _) (.cells zv 56)))
  have Hi0 := Lib.hid (And.intro hi0 (show i < (x.offs.length : Int) by have := Hon.out; omega))
  go_wp2_with fail
  clear d0 d1 d2 d3 d4 d5 rowv Hzv hmv
  generalize w1.alloc (.cells zv 56) = w2 at *
  go_loopw [24] (fun j wr => ∃ (k : Nat) (vs : List Vl), j = .int .i64 k ∧ k ≤ cn ∧ Hid (Wd.RowV wr w1.heap.size vs ∧ vs.length = cn ∧ vs.take k = (cells os i).take k ∧ (∀ j, j < k → i < ((values (os.getD j default).C).length : Int)) ∧ Below w1.heap.size w1 wr)) (fun j _ => cn - (intOf j).toNat)
  case atStart => exact ⟨0, _, rfl, Nat.zero_le _, Lib.hid ⟨I0.out.1, by simp, by simp, fun j hj => by omega, I0.out.2⟩⟩
  case round =>
    clear I0 e5
    obtain ⟨k, vs, rfl, hk, hI⟩ := hrel
    by_cases hltk : k < cn
    · have hkI : (k : Int) < (cn : Int) := by omega
      have hbw : Below w.heap.size w wr := Hb1.out.trans (hI.out.2.2.2.2.mono Hb1.out.size)
      have hko : k < os.length := by rw [← Hcn.out]; exact hltk
      obtain ⟨b, f, hA, _, c0, c1, c2, h1⟩ := (HX.out.cols.below hbw).cells hko rfl
      subst hA
      have hsz := hlt k hko
      have Hko := Lib.hid hko
      have hv1 := fun hv => v1_at h1 i.toNat hv
      obtain ⟨o, ho⟩ : ∃ o, o = os.getD k default := ⟨_, rfl⟩
      rw [← ho] at c0 c1 c2 h1 hsz hv1
      have hal := (Below.refl wr.heap.size wr).alloc (Nat.le_refl _) (.cells #[.int .i64 o.C.n, .slice o.A o.n o.c, .slice o.B o.m o.d] 70)
      have bx := Cx.Cb.new wr o.C.n o.A o.n o.c o.B o.m o.d
      have Ca := Cx.at_any o.A o.n o.c o.B o.m o.d o.C i _ (h1.below hal) hsz.1 hsz.2 hi
      by_cases hv : i < ((values o.C).length : Int)
      · obtain ⟨v, hvv⟩ : ∃ v, v = (values o.C).getD i.toNat default := ⟨_, rfl⟩
        have eat : Co.atv o.C i = (v, true) := by
          unfold Co.atv
          rw [if_pos ⟨hi0, by rw [← Co.values_len]; exact hv⟩, hvv]
        rw [eat] at Ca
        have Ca : Hid (Calls Tryz.prog 44 #[.agg #[.int .i64 o.C.n, .slice o.A o.n o.c, .slice o.B o.m o.d], .int .i64 i] (wr.alloc (.cells #[.int .i64 o.C.n, .slice o.A o.n o.c, .slice o.B o.m o.d] 70)) fun e w' => e = .returned (.tuple #[.agg #[.int .i64 v.kind, .int .i64 v.i, .string v.s, .bool v.b], .bool true]) ∧ Below wr.heap.size wr w') := Lib.hid (Ca.mono fun e w' ⟨kk, ii, ss, bb, rr, e1, e2, e3⟩ => by
          cases e1
          exact ⟨e2, hal.trans (e3.mono hal.size)⟩)
        obtain ⟨b0, b1, b2⟩ := And.intro bx.c0 (And.intro bx.c1 bx.c2)
        have Hal := Lib.hid hal
        have Ho := Lib.hid ho
        have Hv := Lib.hid hv
        have Hvv := Lib.hid hvv
        clear hal bx h1 hsz hbw ho hv hvv hv1 eat hko
        go_wp2_with fail
        refine Ca.out.mono ?_
        rintro e w3 ⟨rfl, hB3⟩
        have hI3 := hI.out.1.below hI.out.1.lt hB3
        have hB3w := hI.out.2.2.2.2.trans (hB3.mono hI.out.2.2.2.2.size)
        have hI4 := Wd.Bx.alloc hI3 (.cells #[.int .i64 v.kind, .int .i64 v.i, .string v.s, .bool v.b] 56)
        have hB4 := hB3w.alloc hB3w.size (.cells #[.int .i64 v.kind, .int .i64 v.i, .string v.s, .bool v.b] 56)
        have bx4 := Wd.Bx.new w3 56 #[.int .i64 v.kind, .int .i64 v.i, .string v.s, .bool v.b]
        clear Ca b0 b1 b2 c0 c1 c2 hB3 hB3w hI3
        go_upto_region 8 with fail
        generalize hw4 : w3.alloc (.cells #[.int .i64 v.kind, .int .i64 v.i, .string v.s, .bool v.b] 56) = w4 at *
        clear hw4
        obtain ⟨⟨s0, s1, s2, s3⟩, -⟩ := Vc.four (k := v.kind) (i := v.i) (s := v.s) (b := v.b) bx4
        have hkv : k < vs.length := by rw [hI.out.2.1]; exact hltk
        obtain ⟨y, ⟨y0, y1, y2, y3⟩, g0, g1, g2, g3⟩ := Wd.RowV.four hI4 hkv
        have hset := Wd.RowV.set hI4 k hkv v
        have hvk : (cells os i).getD k default = v := by rw [cells_get Hko.out, ← Ho.out, Hvv.out]
        have htk := mixv (T := cells os i) (V := vs) (i := k) (by rw [cells_len]; exact Hko.out) (by rw [cells_len, hI.out.2.1]; exact Hcn.out) hI.out.2.2.1
        rw [hvk] at htk
        have hall : ∀ j, j < k + 1 → i < ((values (os.getD j default).C).length : Int) := fun j hj => by
          by_cases q : j = k
          · rw [q, ← Ho.out]; exact Hv.out
          · exact hI.out.2.2.2.1 j (by omega)
        have hB5 := (((hB4.setCell (p := ⟨w1.heap.size, k * 4, none⟩) (Nat.le_refl _) (.int .i64 v.kind)).setCell (p := ⟨w1.heap.size, k * 4 + 1, none⟩) (Nat.le_refl _) (.int .i64 v.i)).setCell (p := ⟨w1.heap.size, k * 4 + 2, none⟩) (Nat.le_refl _) (.string v.s)).setCell (p := ⟨w1.heap.size, k * 4 + 3, none⟩) (Nat.le_refl _) (.bool v.b)
        have H5 := Lib.hid (And.intro hset (And.intro (show (vs.set k v).length = cn by simp [hI.out.2.1]) (And.intro htk (And.intro hall hB5))))
        clear hset htk hall hB5 hI hI4 hB4 bx4 hkv hvk
        go_wp2_with fail
        go_roundw
        case rel => exact ⟨k + 1, vs.set k v, by go_num, by omega, H5⟩
        case measure => simp [intOf]; omega
      · have eat : Co.atv o.C i = (null, false) := by
          unfold Co.atv
          rw [if_neg fun q => hv (by rw [Co.values_len]; exact q.2)]
        rw [eat] at Ca
        have Ca : Hid (Calls Tryz.prog 44 #[.agg #[.int .i64 o.C.n, .slice o.A o.n o.c, .slice o.B o.m o.d], .int .i64 i] (wr.alloc (.cells #[.int .i64 o.C.n, .slice o.A o.n o.c, .slice o.B o.m o.d] 70)) fun e w' => e = .returned (.tuple #[.agg #[.int .i64 0, .int .i64 0, .string ⟨#[]⟩, .bool false], .bool false]) ∧ Below wr.heap.size wr w') := Lib.hid (Ca.mono fun e w' ⟨kk, ii, ss, bb, rr, e1, e2, e3⟩ => by
          cases e1
          exact ⟨e2, hal.trans (e3.mono hal.size)⟩)
        have t2 := Lib.hid (show r = [] by
          rw [Hr.out]
          exact row_no fun z => hv (by have := ((has_iff HX.out.eq).1 z).2 k hko; rw [← ho] at this; exact this))
        obtain ⟨b0, b1, b2⟩ := And.intro bx.c0 (And.intro bx.c1 bx.c2)
        have Hbw := Lib.hid hbw
        clear hal bx h1 hsz hbw ho hv hv1 eat hko
        go_wp2_with fail
        refine Ca.out.mono ?_
        rintro e w3 ⟨rfl, hB3⟩
        have H3 := Lib.hid (Hbw.out.trans (hB3.mono Hbw.out.size))
        clear Ca hB3 b0 b1 b2 c0 c1 c2 hI
        go_wp2_with fail
        go_ret
        exact ⟨none, 0, 0, rfl, by rw [t2.out]; exact Wd.Vs.none_ _, H3.out.alloc H3.out.size _⟩
    · have hkI : ¬ (k : Int) < (cn : Int) := by omega
      obtain rfl : k = cn := by omega
      have hvs : vs = cells os i := by
        have := hI.out.2.2.1
        rw [List.take_of_length_le (by rw [hI.out.2.1]; exact Nat.le_refl _), List.take_of_length_le (by rw [cells_len]; exact Nat.le_of_eq Hcn.out.symm)] at this
        exact this
      have hhas : Has x i := (has_iff HX.out.eq).2 ⟨Hi0.out, fun j hj => hI.out.2.2.2.1 j (by rw [Hcn.out]; exact hj)⟩
      have t2 : r = vs := by rw [Hr.out, row_cells HX.out.eq hhas, hvs]
      have hbw : Below w.heap.size w wr := Hb1.out.trans (hI.out.2.2.2.2.mono Hb1.out.size)
      have hV := hI.out.1.vs k hI.out.2.1.symm (by unfold maxLen; omega) fun j hj => by
        rw [hI.out.2.1] at hj
        have hjo : j < os.length := by rw [← Hcn.out]; exact hj
        rw [hvs, cells_get hjo]
        obtain ⟨_, _, _, _, _, h1⟩ := (HX.out.cols.below hbw).at_ j hjo
        exact v1_at h1 i.toNat (by have := hI.out.2.2.2.1 j hj; have := Hi0.out.1; omega)
      have H := Lib.hid (And.intro hV hbw)
      have T2 := Lib.hid t2
      clear hV hbw t2 hhas hvs hI
      go_wp2_with fail
      go_ret
      exact ⟨_, _, _, rfl, by rw [T2.out]; exact H.out.1, H.out.2⟩
end Se
end Go.Proofs.YtoibpbnebcoafaaGreat
namespace Go.Proofs.YtoibpbnebcoafaaGreat
set_option maxRecDepth 20000
open Go.RowKit
namespace Wd
open Va (Vl)
/-- The values vs are slices that hold the values ys, each in a row of its own. -/
def Hw (w : World) (vs : List Value) (ys : List (List Vl)) : Prop :=
  vs.length = ys.length ∧ ∀ j, j < ys.length → w.ownsRow 0 56 4 (vs.getD j undef) (ys.getD j []).length (flatV (ys.getD j [])) ∧ ∀ i, i < (ys.getD j []).length → V1 ((ys.getD j []).getD i default)
theorem Hw.nil (w : World) : Hw w [] [] := ⟨rfl, fun _ h => by simp at h⟩
theorem Hw.keep {w w' : World} {vs : List Value} {ys : List (List Vl)} (h : Hw w vs ys) (hk : ∀ (x : Nat) (cur : Array Value), w.heap[x]? = some (Obj.cells cur 56 (0, 0)) → w'.heap[x]? = w.heap[x]?) : Hw w' vs ys :=
  ⟨h.1, fun j hj => ⟨own_keep (h.2 j hj).1 fun x hx => by
    obtain ⟨_, _, cur, hc⟩ := own_lt (h.2 j hj).1 hx
    exact hk x cur hc, (h.2 j hj).2⟩⟩
theorem Hw.below {w w' : World} {vs : List Value} {ys : List (List Vl)} (h : Hw w vs ys) (hb : Below w.heap.size w w') : Hw w' vs ys := h.keep fun _ _ hx => hb.block _ (lt_of_block hx)
/-- A block of another type turns. -/
theorem Hw.set {w : World} {vs : List Value} {ys : List (List Vl)} {g : Nat} {t : TypeId} {cs : Array Value} (h : Hw w vs ys) (hb : Bx w g t cs) (hne : t ≠ 56) (i : Nat) (u : Value) : Hw (w.setCell ⟨g, i, none⟩ u) vs ys :=
  h.keep fun x cur hx => Below.heap_setCell _ _ _ _ fun e => by
    have e' : x = g := e
    subst e'
    unfold Bx at hb
    rw [hb] at hx
    simp only [Option.some.injEq, Obj.cells.injEq] at hx
    exact hne hx.2.1
/-- A row of another type grows. -/
theorem Hw.grown {w w' : World} {vs : List Value} {ys : List (List Vl)} {base n size : Nat} {e : TypeId} {v : Value} {xs : List Value} (h : Hw w vs ys) (hr : w.ownsRow base e size v n xs) (hne : e ≠ 56) (hg : w.grownBy w' v.ownBlock) : Hw w' vs ys :=
  h.keep fun x cur hx => hg.block x (lt_of_block hx) fun e1 => by
    obtain ⟨_, _, cur', hc⟩ := own_lt hr e1.symm
    rw [hx] at hc
    simp only [Option.some.injEq, Obj.cells.injEq] at hc
    exact hne hc.2.1.symm
theorem Hw.snoc {w : World} {vs : List Value} {ys : List (List Vl)} {v : Value} {y : List Vl} {B : Nat} (h : Hw w vs ys) (hv : w.ownsRow B 56 4 v y.length (flatV y)) (h1 : ∀ i, i < y.length → V1 (y.getD i default)) : Hw w (vs ++ [v]) (ys ++ [y]) := by
  refine ⟨by simp [h.1], fun j hj => ?_⟩
  simp only [List.length_append, List.length_cons, List.length_nil] at hj
  by_cases q : j < ys.length
  · rw [getD_app_left (by rw [h.1]; exact q), getD_app_left q]
    exact h.2 j q
  · obtain rfl : j = ys.length := by omega
    have e1 : (vs ++ [v]).getD ys.length undef = v := by rw [← h.1]; exact getD_app_at _ _
    rw [e1, getD_app_at]
    exact ⟨own_down hv (Nat.zero_le _), h1⟩
theorem Hw.hv {w : World} {vs : List Value} {ys : List (List Vl)} (h : Hw w vs ys) : Hv w vs ys :=
  ⟨h.1, fun j hj => by
    obtain ⟨A, n, c, e, hV⟩ := Vs.of_own (h.2 j hj).1 (h.2 j hj).2
    exact ⟨A, n, c, e, hV⟩⟩
theorem own_shape1 {w : World} {base n : Nat} {e : TypeId} {v : Value} {xs : List Value} (h : w.ownsRow base e 1 v n xs) : ∃ A c, v = .slice A n c := by
  rcases h.2 with ⟨rfl, rfl⟩ | ⟨g, cap, cur, rfl, _⟩
  · exact ⟨_, _, rfl⟩
  · exact ⟨_, _, rfl⟩
theorem own_shape4 {w : World} {base n : Nat} {e : TypeId} {v : Value} {xs : List Value} (h : w.ownsRow base e 4 v n xs) : ∃ A c, v = .slice A n c := by
  rcases h.2 with ⟨rfl, rfl⟩ | ⟨g, cap, cur, rfl, _⟩
  · exact ⟨_, _, rfl⟩
  · exact ⟨_, _, rfl⟩
theorem info_vs : (Tryz.prog.info? 45).map (fun i => (i.zero, i.size, i.bytes)) = some (some (.slice none 0 0), 1, 24) := by kernel_rfl
end Wd
namespace Se
open Va (Vl May null)
open Sc (Sch tr tr_yes tr_no tr_iff tr_congr)
open Wd (Cr)
open Co (values)
/-- The values of all columns. -/
noncomputable def tabs (os : List Cr) : List (List Vl) := os.map fun o => values o.C
theorem tabs_len (os : List Cr) : (tabs os).length = os.length := by simp [tabs]
theorem tabs_get {os : List Cr} {k : Nat} (h : k < os.length) : (tabs os).getD k [] = values (os.getD k default).C := by
  unfold tabs
  rw [List.getD_eq_getElem?_getD, List.getElem?_map, List.getElem?_eq_getElem h, List.getD_eq_getElem?_getD, List.getElem?_eq_getElem h]
  rfl
theorem tabs_take {os : List Cr} {k : Nat} (h : k < os.length) : (tabs os).take (k + 1) = (tabs os).take k ++ [values (os.getD k default).C] := by
  rw [List.take_succ_eq_append_getElem (by rw [tabs_len]; exact h)]
  congr 2
  have := tabs_get h
  rw [← this]
  simp [List.getD, tabs_len, h]
/-- As many rows as all of k columns have, and at most on. -/
def Hgt (on : Nat) (os : List Cr) (k : Nat) (h : Int) : Prop := 0 ≤ h ∧ h ≤ (on : Int) ∧ ∀ i : Int, i < h ↔ i < (on : Int) ∧ ∀ j, j < k → i < ((values (os.getD j default).C).length : Int)
theorem hgt_next {on : Nat} {os : List Cr} {k : Nat} {h : Int} (H : Hgt on os k h) : Hgt on os (k + 1) (min h ((values (os.getD k default).C).length : Int)) := by
  obtain ⟨h0, h1, h2⟩ := H
  refine ⟨by omega, by omega, fun i => ?_⟩
  constructor
  · intro hi
    have hi' := (h2 i).1 (by omega)
    refine ⟨hi'.1, fun j hj => ?_⟩
    by_cases q : j = k
    · rw [q]; omega
    · exact hi'.2 j (by omega)
  · rintro ⟨q1, q2⟩
    have a := (h2 i).2 ⟨q1, fun j hj => q2 j (by omega)⟩
    have b := q2 k (by omega)
    omega
/-- A table as read answers it. -/
def OutT (w : World) (cn on : Nat) (os : List Cr) (e : Ending) (w' : World) : Prop :=
  ∃ V c h, e = .returned (.agg #[.slice V cn c, .int .i64 h]) ∧ Wd.Ls w' V cn c (tabs os) ∧ Hgt on os os.length h ∧ Below w.heap.size w w'
/-- Between two columns: k of them are in the table in the box at p. -/
structure TI (w0 w : World) (p on k : Nat) (os : List Cr) : Prop where
  ex : ∃ V c h vs, Wd.Bx w p 83 #[.slice V k c, .int .i64 h] ∧ w.ownsRow w0.heap.size 45 1 (.slice V k c) k vs ∧ Wd.Hw w vs ((tabs os).take k) ∧ Hgt on os k h
  p0 : w0.heap.size ≤ p
  bel : Below w0.heap.size w0 w
theorem TI.below {w0 w w' : World} {p on k : Nat} {os : List Cr} (I : TI w0 w p on k os) (hb : Below w.heap.size w w') : TI w0 w' p on k os := by
  obtain ⟨⟨V, c, h, vs, h1, h2, h4, h5⟩, h6, h7⟩ := I
  exact ⟨⟨V, c, h, vs, h1.below h1.lt hb, Wd.own_below h2 hb, h4.below hb, h5⟩, h6, h7.trans (hb.mono h7.size)⟩
set_option maxHeartbeats 8000000 in
theorem read_any (OA : Option Addr) (on oc : Nat) (CA : Option Addr) (cn cc : Nat) (os : List Cr) (x : Seg) (w : World) (hX : Sg w OA on oc CA cn cc os x) (hlt : Lt os) (hcn : cn ≤ 1000000) :
    Calls Tryz.prog 47 #[.agg #[.int .i64 x.part, .int .i64 x.id, .int .i64 x.st, .int .i64 x.en, .slice OA on oc, .slice CA cn cc]] w (OutT w cn on os) := by
  obtain ⟨i0, hi, gz0, gz1, gz2⟩ := info_parts Wd.info_vs
  obtain ⟨w1, hw1⟩ : ∃ w1, w1 = ((w.alloc (.cells #[.int .i64 x.part, .int .i64 x.id, .int .i64 x.st, .int .i64 x.en, .slice OA on oc, .slice CA cn cc] 28)).alloc (.cells #[.slice none 0 0, .int .i64 0] 83)).alloc (.cells #[.slice none 0 0, .int .i64 (on : Int)] 83) := ⟨_, rfl⟩
  have z1 : (w.alloc (.cells #[.int .i64 x.part, .int .i64 x.id, .int .i64 x.st, .int .i64 x.en, .slice OA on oc, .slice CA cn cc] 28)).heap.size = w.heap.size + 1 := by simp
  have z2 : ((w.alloc (.cells #[.int .i64 x.part, .int .i64 x.id, .int .i64 x.st, .int .i64 x.en, .slice OA on oc, .slice CA cn cc] 28)).alloc (.cells #[.slice none 0 0, .int .i64 0] 83)).heap.size = w.heap.size + 1 + 1 := by simp
  have x1 : Gb w1 w.heap.size x.part x.id x.st x.en OA on oc CA cn cc := by rw [hw1]; exact ((Gb.new _ _ _ _ _ _ _ _ _ _ _).alloc _).alloc _
  have r1 : Wd.Bx w1 (w.heap.size + 1) 83 #[.slice none 0 0, .int .i64 0] := by
    have := Wd.Bx.new (w.alloc (.cells #[.int .i64 x.part, .int .i64 x.id, .int .i64 x.st, .int .i64 x.en, .slice OA on oc, .slice CA cn cc] 28)) 83 #[.slice none 0 0, .int .i64 0]
    rw [z1] at this
    rw [hw1]
    exact this.alloc _
  have b1 : Wd.Bx w1 (w.heap.size + 1 + 1) 83 #[.slice none 0 0, .int .i64 (on : Int)] := by
    have := Wd.Bx.new ((w.alloc (.cells #[.int .i64 x.part, .int .i64 x.id, .int .i64 x.st, .int .i64 x.en, .slice OA on oc, .slice CA cn cc] 28)).alloc (.cells #[.slice none 0 0, .int .i64 0] 83)) 83 #[.slice none 0 0, .int .i64 (on : Int)]
    rw [z2] at this
    rw [hw1]
    exact this
  have hb1 : Below w.heap.size w w1 := by rw [hw1]; exact (((Below.refl _ _).alloc (Nat.le_refl _) _).alloc (by simp) _).alloc (by simp; omega) _
  have hon := hX.offs.len
  have hoc := hX.offs.cap
  have hox := hX.offs.max
  unfold maxLen at hox
  have I1 : TI w w1 (w.heap.size + 1 + 1) on 0 os := ⟨⟨none, 0, on, [], b1, World.ownsRow_nil _ _ _ _, by simpa using Wd.Hw.nil _, by omega, by omega, fun i => ⟨fun z => ⟨z, fun j hj => by omega⟩, fun z => z.1⟩⟩, by omega, hb1⟩
  obtain ⟨d0, d1, d2, d3, d4, d5⟩ := x1.six
  have HX := Lib.hid hX
  have Hcn := Lib.hid hX.cols.len
  have Hx1 := Lib.hid x1
  have Hr1 := Lib.hid r1
  have HI1 := Lib.hid I1
  have Hw1 := Lib.hid hw1
  have hz1 : w.heap.size + 1 + 1 < w1.heap.size := b1.lt
  have Hb1 := Lib.hid hb1
  clear hw1 z1 z2 x1 r1 b1 hb1 I1 hX hon
  go_enter Tryz.func47, Tryz.ntmps47
  go_upto_region 2 with fail
  rw [← Hw1.out]
  go_wp2_with fail
  go_loopw [14] (fun j wr => ∃ k : Nat, j = .int .i64 k ∧ k ≤ cn ∧ Hid (TI w wr (w.heap.size + 1 + 1) on k os ∧ Wd.Bx wr (w.heap.size + 1) 83 #[.slice none 0 0, .int .i64 0])) (fun j _ => cn - (intOf j).toNat)
  case atStart => exact ⟨0, rfl, Nat.zero_le _, Lib.hid ⟨HI1.out, Hr1.out⟩⟩
  case round =>
    clear d0 d1 d2 d3 d4 d5
    obtain ⟨k, rfl, hk, hI⟩ := hrel
    by_cases hltk : k < cn
    · have hkI : (k : Int) < (cn : Int) := by omega
      have hko : k < os.length := by rw [← Hcn.out]; exact hltk
      obtain ⟨b, f, hA, _, c0, c1, c2, h1⟩ := (HX.out.cols.below hI.out.1.bel).cells hko rfl
      subst hA
      have hsz := hlt k hko
      have htk := Lib.hid (tabs_take hko)
      obtain ⟨o, ho⟩ : ∃ o, o = os.getD k default := ⟨_, rfl⟩
      rw [← ho] at c0 c1 c2 h1 hsz htk
      have hal := (Below.refl wr.heap.size wr).alloc (Nat.le_refl _) (.cells #[.int .i64 o.C.n, .slice o.A o.n o.c, .slice o.B o.m o.d] 70)
      have bx := Cx.Cb.new wr o.C.n o.A o.n o.c o.B o.m o.d
      have Cv := Lib.hid (Cx.values_own o.A o.n o.c o.B o.m o.d o.C _ (h1.below hal) hsz.1 hsz.2)
      obtain ⟨b0, b1, b2⟩ := And.intro bx.c0 (And.intro bx.c1 bx.c2)
      have Hal := Lib.hid hal
      have Ho := Lib.hid ho
      clear hal bx h1 hsz ho hko
      go_wp2_with fail
      refine Cv.out.mono ?_
      rintro e w5 ⟨v5, rfl, hO5, hV5, hB5⟩
      obtain ⟨A5, c5, rfl⟩ := Wd.own_shape4 hO5
      have hB5' := Hal.out.trans (hB5.mono Hal.out.size)
      have I5 := hI.out.1.below hB5'
      have r5 := hI.out.2.below hI.out.2.lt hB5'
      obtain ⟨⟨V, c, h, vs, hbx, hown, hw, hg⟩, hp0, hbel⟩ := I5
      obtain ⟨n5, hn5⟩ : ∃ n5, n5 = (values o.C).length := ⟨_, rfl⟩
      have hg2 := hgt_next hg
      rw [← Ho.out, ← hn5] at hg2
      have hg01 := And.intro hg.1 hg.2.1
      have hn4 : n5 ≤ 4096 := by rw [hn5]; exact Nat.le_trans (Nat.le_of_eq (Co.values_len _)) (Co.nums_4096 _)
      have t0 := hbx.cell 0
      have hO5' : w5.ownsRow 0 56 4 (.slice A5 n5 c5) (values o.C).length (Wd.flatV (values o.C)) := by rw [hn5]; exact Wd.own_down hO5 (Nat.zero_le _)
      have hO6 := hO5'.alloc (.cells #[.slice A5 n5 c5] 45)
      have hown6 := hown.alloc (.cells #[.slice A5 n5 c5] 45)
      have hbx6 := hbx.alloc (.cells #[.slice A5 n5 c5] 45)
      have r6 := r5.alloc (.cells #[.slice A5 n5 c5] 45)
      have hw6 := hw.below ((Below.refl w5.heap.size w5).alloc (Nat.le_refl _) (.cells #[.slice A5 n5 c5] 45))
      have hbel6 := hbel.alloc hbel.size (.cells #[.slice A5 n5 c5] 45)
      have hnew := (Wd.Bx.new w5 45 #[.slice A5 n5 c5]).cell 0
      have H6 := Lib.hid (And.intro hO6 (And.intro hw6 (And.intro hV5 hg2)))
      have HN5 := Lib.hid hn5
      have hzB := hbel6.size
      obtain ⟨mn, hmn⟩ : ∃ mn, mn = (if (n5 : Int) < h then (n5 : Int) else h) := ⟨_, rfl⟩
      have Hmn := Lib.hid hmn
      have Hmin := Lib.hid (show mn = min h (n5 : Int) by rw [hmn]; split <;> omega)
      have Hgm := Lib.hid (show Hgt on os (k + 1) mn by
        rw [hmn, show (if (n5 : Int) < h then (n5 : Int) else h) = min h (n5 : Int) by split <;> omega]
        exact hg2)
      rw [← hn5]
      clear hO5 hO5' hV5 hB5 hB5' hI hbx hown hw hg hg2 hn5 hO6 hw6 Cv b0 b1 b2 c0 c1 c2 hbel hmn Hal r5
      go_wp2_with (at_builtin; refine Wd.wpList_app1v _ rfl (.tmp 21) (.tmp 23) 33 rfl w.heap.size 45 i0 _ 24 Tryz.underlying33 hi gz0 gz1 gz2 rfl (.slice V k c) k vs rfl hown6 ⟨w5.heap.size, 0, none⟩ (.slice A5 n5 c5) rfl hnew rfl rfl (by unfold maxLen; omega) (by omega) hzB ?_; intro v7 w7 hown7 hgrow7; obtain ⟨A7, c7, rfl⟩ := Wd.own_shape1 hown7; have hbx7 := hbx6.grown hgrow7 (hbx6.apart hown6 (by decide)); have t7 := hbx7.cell 0; have f7 := hbx7.free 0; have hbx8 := hbx7.set 0 (.slice A7 (k + 1) c7); have t8 : (w7.setCell ⟨w.heap.size + 1 + 1, 0, none⟩ (.slice A7 (k + 1) c7)).cell? ⟨w.heap.size + 1 + 1, 1, none⟩ = some (.int .i64 h) := hbx8.cell 1; have f8 := hbx8.free 1)
      first | rw [← Hmn.out] | rw [← Hmin.out]
      have own_pt : ∀ {wq : World} {v : Value} {q : Nat} {xs : List Value} {g i : Nat} {cs : Array Value} {u : Value}, wq.ownsRow w.heap.size 45 1 v q xs → Wd.Bx wq g 83 cs → (wq.setCell ⟨g, i, none⟩ u).ownsRow w.heap.size 45 1 v q xs := fun {wq v q xs g i cs u} h1 h2 =>
        Wd.own_keep h1 fun y hy => Below.heap_setCell _ _ _ _ fun e => h2.apart h1 (by decide) (by rw [hy]; exact congrArg some (show g = y from (show y = g from e).symm))
      have hw8 := (((H6.out.2.1.snoc H6.out.1 H6.out.2.2.1).grown hown6 (by decide) hgrow7).set hbx7 (by decide) 0 (.slice A7 (k + 1) c7)).set hbx8 (by decide) 1 (.int .i64 mn)
      rw [← htk.out] at hw8
      have I9 := Lib.hid (show TI w ((w7.setCell ⟨w.heap.size + 1 + 1, 0, none⟩ (.slice A7 (k + 1) c7)).setCell ⟨w.heap.size + 1 + 1, 1, none⟩ (.int .i64 mn)) (w.heap.size + 1 + 1) on (k + 1) os from
        ⟨⟨A7, c7, mn, _, by simpa using hbx8.set 1 (.int .i64 mn), own_pt (own_pt hown7 hbx7) hbx8, hw8, Hgm.out⟩, by omega,
          ((hbel6.grown hgrow7 hzB fun g hg => (hown6.lt g hg).1).setCell (p := ⟨w.heap.size + 1 + 1, 0, none⟩) (show w.heap.size ≤ w.heap.size + 1 + 1 by omega) _).setCell (p := ⟨w.heap.size + 1 + 1, 1, none⟩) (show w.heap.size ≤ w.heap.size + 1 + 1 by omega) _⟩)
      have R9 := Lib.hid (((r6.grown hgrow7 (r6.apart hown6 (by decide))).other (a := ⟨w.heap.size + 1 + 1, 0, none⟩) (show w.heap.size + 1 ≠ w.heap.size + 1 + 1 by omega) (.slice A7 (k + 1) c7)).other (a := ⟨w.heap.size + 1 + 1, 1, none⟩) (show w.heap.size + 1 ≠ w.heap.size + 1 + 1 by omega) (.int .i64 mn))
      refine ⟨⟨k + 1, by go_num, by omega, Lib.hid ⟨I9.out, R9.out⟩⟩, by simp [intOf]; omega⟩
    · have hkI : ¬ (k : Int) < (cn : Int) := by omega
      obtain rfl : k = cn := by omega
      obtain ⟨⟨V, c, h, vs, hbx, hown, hw, hg⟩, hp0, hbel⟩ := hI.out.1
      have hr := hI.out.2
      have hbx' := hbx
      have t0 := hbx.cell 0
      have t1 := hbx.cell 1
      have r0 := hr.cell 0
      have r1 := hr.cell 1
      have f0 := hr.free 0
      have f1 := hr.free 1
      have hr1 := hr.set 0 (.slice V k c)
      have hr2 := hr1.set 1 (.int .i64 h)
      have own_pt : ∀ {wq : World} {v : Value} {q : Nat} {xs : List Value} {g i : Nat} {cs : Array Value} {u : Value}, wq.ownsRow w.heap.size 45 1 v q xs → Wd.Bx wq g 83 cs → (wq.setCell ⟨g, i, none⟩ u).ownsRow w.heap.size 45 1 v q xs := fun {wq v q xs g i cs u} h1 h2 =>
        Wd.own_keep h1 fun y hy => Below.heap_setCell _ _ _ _ fun e => h2.apart h1 (by decide) (by rw [hy]; exact congrArg some (show g = y from (show y = g from e).symm))
      have hown2 := own_pt (i := 1) (u := .int .i64 h) (own_pt (i := 0) (u := .slice V k c) hown hr) hr1
      have hw2 := ((hw.set hr (by decide) 0 (.slice V k c)).set hr1 (by decide) 1 (.int .i64 h))
      rw [List.take_of_length_le (by rw [tabs_len, Hcn.out]; exact Nat.le_refl _)] at hw2
      obtain ⟨V', c', e1, hLs⟩ := Wd.Ls.of_own hown2 hw2.hv
      cases e1
      have HL := Lib.hid (And.intro hLs ((hbel.setCell (p := ⟨w.heap.size + 1, 0, none⟩) (show w.heap.size ≤ w.heap.size + 1 by omega) (.slice V k c)).setCell (p := ⟨w.heap.size + 1, 1, none⟩) (show w.heap.size ≤ w.heap.size + 1 by omega) (.int .i64 h)))
      have HG := Lib.hid (show Hgt on os os.length h by rw [← Hcn.out]; exact hg)
      have HR2 := Lib.hid (by simpa using hr2 : Wd.Bx ((wr.setCell ⟨w.heap.size + 1, 0, none⟩ (.slice V k c)).setCell ⟨w.heap.size + 1, 1, none⟩ (.int .i64 h)) (w.heap.size + 1) 83 #[.slice V k c, .int .i64 h])
      clear hLs hw2 hown2 hr1 hr2 hw hown hbx hbx' hr hI hg hbel own_pt
      go_wp2_with fail
      have g0 := HR2.out.cell 0
      have g1 := HR2.out.cell 1
      refine bodyPost_ret (v := .agg #[.slice V k c, .int .i64 h]) ?_ rfl ⟨V, c, h, rfl, HL.out.1, HG.out, HL.out.2⟩
      rw [Vc.res_cell1 rfl]; go_simp
end Se
end Go.Proofs.YtoibpbnebcoafaaGreat
