/- What Sorted of package dict does. Package column: number. -/
import Derived.Deep.RegionWith
import Derived.Deep.DeepCutAuto
import Derived.Test.YtoibpbnebcoafaaGreatPk31
import Derived.Test.YtoibpbnebcoafaaGreatPk33
import Derived.Test.YtoibpbnebcoafaaGreatPk23
import Derived.Test.YtoibpbnebcoafaaGreatPk28
import Derived.Test.YtoibpbnebcoafaaGreatPk30
import Derived.Test.YtoibpbnebcoafaaGreatPk32
namespace Go.Proofs.YtoibpbnebcoafaaGreat
set_option maxRecDepth 20000
open Go.RowKit
namespace Dt
open Va (Vl May ord null)
open Dc Dx
/-- The sort of a row of the call's own, nil or not. -/
theorem sort_all (B n c : Nat) (A : Option Addr) (L : List Vl) (w : World) (hown : w.ownsRow B 56 4 (.slice A n c) n (Wd.flatV L)) (h1 : ∀ x ∈ L, Wd.V1 x) (hm : ∀ x ∈ L, May x) (hn : L.Nodup) (hl : L.length ≤ 4096) (hB : B ≤ w.heap.size) :
    Calls Tryz.prog 139 #[.slice A n c, .func (.func 87) #[] #[]] w fun e w' => e = .returned (.tuple #[]) ∧ Wd.Vs w' A n c (srt L) ∧ Below B w w' := by
  have hlen : n = L.length := by have := hown.1; rw [Wd.flatV_len] at this; omega
  rcases hown.2 with ⟨h', h0⟩ | ⟨g, cap, cur, h', hb, hg, h2, h3, h4, h5⟩
  · simp only [Value.slice.injEq] at h'
    obtain ⟨rfl, rfl, rfl⟩ := h'
    have e : L = [] := List.eq_nil_of_length_eq_zero hlen.symm
    subst e
    refine (Ds.sort_none none 0 _ w).mono ?_
    rintro e w' ⟨rfl, rfl⟩
    exact ⟨rfl, Wd.Vs.none_ _, Below.refl _ _⟩
  · simp only [Value.slice.injEq, true_and] at h'
    obtain ⟨rfl, rfl⟩ := h'
    refine (Ds.sort_any B g n c L w hown h1 hm hn hl).mono ?_
    rintro e w' ⟨rfl, hV, hG⟩
    exact ⟨rfl, hV, (Below.refl _ _).grown hG hB (fun x hx => by cases hx; exact hb)⟩
/-- The same, and both rows are new. -/
def OutSn (w : World) (l : List Vl) (ts : List Int) (e : Ending) (w' : World) : Prop := ∃ A n c B m d, e = .returned (.tuple #[.slice A n c, .slice B m d]) ∧ Wd.Vs w' A n c l ∧ Wd.Sl w' .i64 B m d ts ∧ Below w.heap.size w w' ∧ (∀ a, B = some a → w.heap.size ≤ a.block) ∧ ∀ a, A = some a → w.heap.size ≤ a.block
section
variable {w : World} {d m : Nat} {v : Value} {L : List Vl} {k : Int} {G : Nat → Prop}
set_option maxHeartbeats 4000000 in
theorem sorted_new (h : Lay w d m v L k G) (hd : Dis L k) (ho : ∀ x ∈ L, Okv x) : Calls Tryz.prog 116 #[pt d] w (OutSn w (srt L) (tos L)) := by
  obtain ⟨i0, hi, hz0, hz1, hz2⟩ := info_parts info_i
  obtain ⟨A, n, c, hv, hV⟩ := h.vs ho
  have hlb := lim_bd k
  have hdl := hd.len
  have hL4 : L.length ≤ 4096 := by omega
  have hn4 : n ≤ 4096 := by rw [hV.len]; exact hL4
  have Hm := Lib.hid hV.len
  have hcap := hV.cap
  have hmx := hV.max
  unfold maxLen at hmx
  have cells := fun w' (hb : Below w.heap.size w w') => by
    have hl := h.below hb
    have c2 := hl.box.cell 2
    simp at c2
    rw [hv] at c2
    exact c2
  have Cells := Lib.hid cells
  have HV := Lib.hid hV
  have Hd := Lib.hid hd
  have Ho := Lib.hid ho
  have Cc := Lib.hid (Ds.clone_any A n c L w hV hL4)
  have c2 := cells w (Below.refl _ _)
  have hdlt := h.box.lt
  have Cs := Lib.hid fun A1 c1 w1 (hown : w1.ownsRow w.heap.size 56 4 (.slice A1 n c1) n (Wd.flatV L)) (hb : w.heap.size ≤ w1.heap.size) => sort_all w.heap.size n c1 A1 L w1 hown (fun x hx => (ho x hx).1) hd.may hd.nd hL4 hb
  clear cells hV h hlb hdl hv hd ho
  go_enter Tryz.func116, Tryz.ntmps116
  go_wp2_with fail
  refine Cc.out.mono ?_
  rintro e w1 ⟨v1, rfl, hO1, hB1⟩
  rw [← Hm.out] at hO1
  obtain ⟨A1, c1, rfl⟩ := own_shape hO1
  have hA1 := Lib.hid (fun a (ha : A1 = some a) => (Wd.own_lt hO1 (x := a.block) (by rw [ha]; rfl)).2.1)
  have HO1 := Lib.hid hO1
  clear Cc hO1 c2
  go_wp2_with fail
  refine (Cs.out A1 c1 w1 HO1.out hB1.size).mono ?_
  rintro e w2 ⟨rfl, hV2, hB2⟩
  have hb2 := hB1.trans hB2
  have HV2 := Lib.hid hV2
  clear Cs HO1 hV2 hB2 hB1
  go_wp2_with (at_make; refine wpList_make_full _ rfl (.tmp 18) (.tmp 18) 25 rfl w2.heap.size 3 i0 _ 1 Tryz.underlying25 hi hz0 hz1 .i64 .i64 n n n rfl rfl rfl rfl (by rw [hz2]; omega) (by unfold maxLen; omega) (Nat.le_refl _) ?_; intro w3 hown3 hgrow3; have hb23 : Below w2.heap.size w2 w3 := (Below.refl _ _).grown hgrow3 (Nat.le_refl _) (by simp); have c3 := Cells.out w3 (hb2.trans (hb23.mono hb2.size)))
  rw [Wd.made_zero] at hown3
  have hR3 := (Wd.Row.of_own hown3).1
  have I0 := Lib.hid (And.intro hR3 hb23)
  have Hb2 := Lib.hid hb2
  have hz2w := hb2.size
  have Hris := Lib.hid (srt_ris Hd.out.may Hd.out.nd)
  clear hown3 hgrow3 hR3 hb23 hb2 c3
  go_loopw [25] (fun i wr => ∃ k : Nat, i = .int .i64 k ∧ k ≤ n ∧ Wd.Row wr w2.heap.size .i64 3 (Wd.fill (tos L) k) ∧ Below w2.heap.size w2 wr) (fun i _ => n - (intOf i).toNat)
  case atStart =>
    refine ⟨0, rfl, Nat.zero_le _, ?_, I0.out.2⟩
    rw [Wd.fill_zero, tos_len, ← Hm.out]
    exact I0.out.1
  case round =>
    obtain ⟨k, rfl, hk, hR, hB⟩ := hrel
    by_cases hlt : k < n
    · have hkl : k < L.length := by rw [← Hm.out]; exact hlt
      have hBw := Hb2.out.trans (hB.mono hz2w)
      obtain ⟨e, f, hA, heB, d0, d1, d2, d3, _⟩ := (HV.out.below hBw).cells (j := k) hkl rfl
      subst hA
      have htos := tos_getD hkl
      have hxm := getD_mem hkl
      obtain ⟨x, hx⟩ : ∃ x, x = L.getD k default := ⟨_, rfl⟩
      rw [← hx] at d0 d1 d2 d3 htos hxm
      have Cp := fun w' (hb : Below w2.heap.size w2 w') => place_any A1 n c1 (srt L) x.kind x.i x.s x.b w' (HV2.out.below hb) Hris.out (Hd.out.may x hxm)
      rw [show (⟨x.kind, x.i, x.s, x.b⟩ : Vl) = x from rfl, place_perm (srt_perm L) x] at Cp
      generalize place L x = p at *
      generalize decide (x ∈ srt L) = bb at *
      have Htos := Lib.hid htos
      have Hkt := Lib.hid (show k < (tos L).length by rw [tos_len]; exact hkl)
      have Cp := Lib.hid Cp
      have hb4 : Below w2.heap.size w2 (wr.alloc (.cells #[.int .i64 x.kind, .int .i64 x.i, .string x.s, .bool x.b] 56)) := hB.alloc hB.size _
      have hR4 := hR.below hR.lt ((Below.refl wr.heap.size wr).alloc (Nat.le_refl _) (.cells #[.int .i64 x.kind, .int .i64 x.i, .string x.s, .bool x.b] 56))
      have hkI : (k : Int) < (n : Int) := by omega
      clear hx hxm htos hkl hBw hR hB
      go_wp2_with fail
      generalize wr.alloc (.cells #[.int .i64 x.kind, .int .i64 x.i, .string x.s, .bool x.b] 56) = wv at *
      clear d0 d1 d2 d3
      refine (Cp.out _ hb4).mono ?_
      rintro e' w5 ⟨rfl, hB5⟩
      have hb5 := hb4.trans (hB5.mono hb4.size)
      have hR5 := hR4.below hR4.lt hB5
      have cg := hR5.cell k (by rw [Wd.fill_len]; exact Hkt.out)
      have cf := hR5.free k
      have hst : Wd.Row (w5.setCell ⟨w2.heap.size, k, none⟩ (.int .i64 (p : Int))) w2.heap.size .i64 3 (Wd.fill (tos L) (k + 1)) := by
        rw [← Wd.fill_set (tos L) k Hkt.out, Htos.out]
        exact hR5.set k _
      have hb6 := hb5.setCell (p := ⟨w2.heap.size, k, none⟩) (Nat.le_refl _) (.int .i64 (p : Int))
      clear hR4 hR5 hB5 hb4 hb5 Cp
      go_wp2_with fail
      go_roundw
      case rel => exact ⟨k + 1, by go_num, by omega, hst, hb6⟩
      case measure => simp [intOf]; omega
    · have hkI : ¬ (k : Int) < n := by omega
      have hkm : k = n := by omega
      have e2 : Wd.fill (tos L) k = tos L := by rw [hkm, Hm.out, ← tos_len L, Wd.fill_all]
      rw [e2] at hR
      have hBw := Hb2.out.trans (hB.mono hz2w)
      clear e2 hkm
      go_wp2_with fail
      go_ret2
      exact ⟨_, _, _, _, _, _, rfl, HV2.out.below hB, hR.sl n (by rw [tos_len]; exact Hm.out) (by unfold maxLen; omega), hBw, (fun a ha => by cases ha; exact hz2w), hA1.out⟩
theorem sorted_any (h : Lay w d m v L k G) (hd : Dis L k) (ho : ∀ x ∈ L, Okv x) : Calls Tryz.prog 116 #[pt d] w (OutS w (srt L) (tos L)) :=
  (sorted_new h hd ho).mono fun _ _ ⟨A, n, c, B, m, d, q⟩ => ⟨A, n, c, B, m, d, q.1, q.2.1, q.2.2.1, q.2.2.2.1⟩
end
end Dt
end Go.Proofs.YtoibpbnebcoafaaGreat
namespace Go.Proofs.YtoibpbnebcoafaaGreat
set_option maxRecDepth 20000
open Go.RowKit
namespace Cx
open Va (Vl May ord null)
open Sc (tr tr_yes tr_no tr_iff)
open Co Dc
open Dx (Okv)
open Dt (pt)
/-- A growing dictionary and a row of numbers, apart, in memory that is new since wo. -/
def Grow (wo w : World) (d g n : Nat) (L : List Vl) (N : List Int) : Prop :=
  ∃ G, Dt.D w d L 4096 G ∧ Wd.Row w g .i64 3 N ∧ N.length = n ∧ ¬ G g ∧ (∀ x, G x → wo.heap.size ≤ x) ∧ wo.heap.size ≤ g ∧ Below wo.heap.size wo w
theorem Grow.bel {wo w : World} {d g n : Nat} {L : List Vl} {N : List Int} (h : Grow wo w d g n L N) : Below wo.heap.size wo w := by
  obtain ⟨_, _, _, _, _, _, _, h⟩ := h
  exact h
theorem D_keep {w w' : World} {d : Nat} {L : List Vl} {k : Int} {G : Nat → Prop} (h : Dt.D w d L k G) (hs : w.heap.size ≤ w'.heap.size) (hk : ∀ g, G g → w'.heap[g]? = w.heap[g]?) : Dt.D w' d L k G := by
  obtain ⟨m, v, h⟩ := h
  exact ⟨m, v, h.at_ hs hk⟩
theorem D_lt {w : World} {d : Nat} {L : List Vl} {k : Int} {G : Nat → Prop} (h : Dt.D w d L k G) : ∀ g, G g → g < w.heap.size := by
  obtain ⟨m, v, h⟩ := h
  exact h.bd
theorem Grow.below {wo w w' : World} {d g n : Nat} {L : List Vl} {N : List Int} (h : Grow wo w d g n L N) (hb : Below w.heap.size w w') : Grow wo w' d g n L N := by
  obtain ⟨G, h1, h2, h3, h4, h5, h6, h7⟩ := h
  exact ⟨G, D_keep h1 hb.size fun x hx => hb.block x (D_lt h1 x hx), h2.below h2.lt hb, h3, h4, h5, h6, h7.trans (hb.mono h7.size)⟩
theorem Grow.row {wo w : World} {d g n : Nat} {L : List Vl} {N : List Int} (h : Grow wo w d g n L N) : Wd.Row w g .i64 3 N := by
  obtain ⟨_, _, h2, _⟩ := h
  exact h2
theorem Grow.len {wo w : World} {d g n : Nat} {L : List Vl} {N : List Int} (h : Grow wo w d g n L N) : N.length = n := by
  obtain ⟨_, _, _, h2, _⟩ := h
  exact h2
theorem Grow.set {wo w : World} {d g n : Nat} {L : List Vl} {N : List Int} (h : Grow wo w d g n L N) (j : Nat) (x : Int) : Grow wo (w.setCell ⟨g, j, none⟩ (.int .i64 x)) d g n L (N.set j x) := by
  obtain ⟨G, h1, h2, h3, h4, h5, h6, h7⟩ := h
  exact ⟨G, D_keep h1 (by simp) fun y hy => Below.heap_setCell _ _ _ _ (fun e => h4 (by rw [show y = g from e] at hy; exact hy)), h2.set j x, by simpa using h3, h4, h5, h6, h7.setCell h6 _⟩
/-- What Add does to both. -/
theorem Grow.turn {wo w w' : World} {d g n : Nat} {L' : List Vl} {N : List Int} {G G' : Nat → Prop} (h2 : Wd.Row w g .i64 3 N) (h3 : N.length = n) (h4 : ¬ G g) (h5 : ∀ x, G x → wo.heap.size ≤ x) (h6 : wo.heap.size ≤ g) (h7 : Below wo.heap.size wo w)
    (hM : Wd.Mv G w w') (hD : Dt.D w' d L' 4096 G') (hG : ∀ x, G' x → Wd.Gr G w w' x) : Grow wo w' d g n L' N :=
  ⟨G', hD, (hM.keep g h2.lt h4).trans h2, h3, fun q => by
    rcases hG g q with z | z
    · exact h4 z
    · have := h2.lt; omega, fun x hx => Wd.Gr.ge h5 h7.size x (hG x hx), h6, h7.trans (hM.below h5 h7.size)⟩
theorem sl_store' {w : World} {k : IntKind} {R : Option Addr} {r t p : Nat} {ys : List Int} (h : Wd.Sl w k R r t ys) (hne : ∀ a, R = some a → a.block ≠ p) (i : Nat) (u : Value) : Wd.Sl (w.setCell ⟨p, i, none⟩ u) k R r t ys :=
  ⟨h.len, h.cap, h.max, h.nil, fun j hj => by
    obtain ⟨b, f, e, hlt, hc⟩ := h.rd j hj
    have hb := hne _ e
    exact ⟨b, f, e, by simpa using hlt, (World.cell?_setCell_other _ _ _ _ (fun q => hb (by cases q; rfl))).trans hc⟩⟩
theorem row_ne {w : World} {g : Nat} {e : TypeId} {N : List Int} (h : Wd.Row w g .i64 e N) {R : Option Addr} {r t : Nat} {vs : List Vl} (k : Wd.Vs w R r t vs) : ∀ a, R = some a → vs ≠ [] → a.block ≠ g := by
  intro a ha hv
  obtain ⟨b, f, e, _, _, _, d2, _⟩ := k.cells (j := 0) (List.length_pos_iff.2 hv) rfl
  rw [e] at ha
  cases ha
  rintro rfl
  rw [cell_of_row w b _ _ _ _ h] at d2
  rw [List.getElem?_toArray, List.getElem?_map] at d2
  cases hq : N[f + 0 * 4 + 2]? with
  | none => rw [hq] at d2; cases d2
  | some x => rw [hq] at d2; cases d2
/-- What number answers; the row of values is new. -/
def OutN (w : World) (r : List Vl × List Int × Int) (e : Ending) (w' : World) : Prop :=
  ∃ A n c B m d, e = .returned (.tuple #[.slice A n c, .slice B m d, .int .i64 r.2.2]) ∧ Wd.Vs w' A n c r.1 ∧ Wd.Sl w' .i64 B m d r.2.1 ∧ Below w.heap.size w w' ∧ ∀ a, A = some a → w.heap.size ≤ a.block
set_option maxHeartbeats 8000000 in
theorem number_any (A : Option Addr) (n c : Nat) (l : List Vl) (w : World) (hV : Wd.Vs w A n c l) (hs : ∀ x ∈ l, x.s.size ≤ maxLen) (hn : n ≤ 4096) :
    Calls Tryz.prog 88 #[.slice A n c] w (OutN w (nrs l)) := by
  obtain ⟨i0, hi, hz0, hz1, hz2⟩ := info_parts Dx.info_i
  have Hn := Lib.hid hV.len
  have hl : l.length ≤ 4096 := by rw [← hV.len]; exact hn
  have hcap := hV.cap
  have hmx := hV.max
  unfold maxLen at hmx
  have HV := Lib.hid hV
  have Hl := Lib.hid hl
  have Hok := Lib.hid (show ∀ x ∈ l, Okv x from fun x hx => by
    obtain ⟨j, hj, rfl⟩ := List.getElem_of_mem hx
    obtain ⟨_, _, _, _, _, h1⟩ := hV.at_ j hj
    exact ⟨by simpa [List.getD, hj] using h1, hs _ hx⟩)
  obtain ⟨R, hR⟩ : ∃ R, R = nrs l := ⟨_, rfl⟩
  have HR := Lib.hid hR
  rw [← hR]
  have hb0 : Below w.heap.size w w.drew := (Below.refl _ _).drew
  obtain ⟨zc, hzc⟩ : ∃ zc : Array Value, zc = ((List.replicate n (0 : Int)).map (Value.int .i64)).toArray := ⟨_, rfl⟩
  have hmk : ∀ X : World, (Instr.makeSlice 25 (.int .i64 (n : Int)) (.int .i64 (n : Int))).run Tryz.prog X = .ok (.slice (some ⟨X.heap.size, 0, none⟩) n n) (X.alloc (.cells zc 3)) := fun X => by
    have := run_make (P := Tryz.prog) X 25 3 i0 _ Tryz.underlying25 hi hz0 .i64 .i64 (n : Int) (n : Int) (by omega) (by omega) (by rw [hz2]; omega) (by omega)
    rw [this, hzc, hz1, Int.toNat_natCast, ← Wd.made_zero]
  have Hzc := Lib.hid hzc
  have rowz := Lib.hid fun X : World => (by rw [hzc]; exact heap_alloc_new X _ : Wd.Row (X.alloc (.cells zc 3)) X.heap.size .i64 3 (List.replicate n 0))
  have Cn := Lib.hid fun w => Dt.new_any 4096 w
  clear hV hs hl hR hzc
  go_enter Tryz.func88, Tryz.ntmps88
  go_upto_region 1 with fail
  go_cut [5, 6] (fun u v wx => ∃ d g, u = pt d ∧ v = .slice (some ⟨g, 0, none⟩) n n ∧ Hid (Grow w wx d g n [] (List.replicate n 0)))
  case first =>
    have hsz1 : (w.alloc (.cells zc 3)).drew.heap.size = w.heap.size + 1 := by show (w.alloc (.cells zc 3)).heap.size = _; simp
    go_region_with (go_at_call 114; refine (Cn.out _).mono ?_; rintro e w5 ⟨d, G, rfl, hD, hB, hG⟩)
    all_goals (
      go_wp2_with fail
      go_meet)
    all_goals first
      | exact ⟨d, w5.heap.size, rfl, rfl, Lib.hid ⟨G, D_keep hD (by simp) (fun x hx => Below.heap_alloc w5 _ x (D_lt hD x hx)), rowz.out w5, by simp, fun q => by have := D_lt hD _ q; omega, hG, hB.size, (Wd.of_drew hB).alloc hB.size _⟩⟩
      | exact ⟨d, w.heap.size, rfl, rfl, Lib.hid ⟨G, hD, (rowz.out w).drew.below (by simp) hB, by simp, fun q => by have := hG _ q; rw [hsz1] at this; omega, fun x hx => by have := hG x hx; rw [hsz1] at this; omega, Nat.le_refl _, by
          have h1 : Below w.heap.size w (w.alloc (.cells zc 3)).drew := ((Below.refl _ _).alloc (Nat.le_refl _) _).drew
          exact h1.trans (hB.mono h1.size)⟩⟩
  case rest =>
    obtain ⟨d, g, rfl, rfl, hI⟩ := hcut
    clear Cn hb0 hmk rowz Hzc zc
    obtain ⟨L, hL⟩ : ∃ L : Nat → List Vl, L = fun k => adds 4096 [] (l.take k) := ⟨_, rfl⟩
    have HL0 := Lib.hid (show L 0 = [] by rw [hL]; rfl)
    have HLn := Lib.hid (show L l.length = adds 4096 [] l by rw [hL]; show adds 4096 [] (l.take l.length) = _; rw [List.take_length])
    have HLd := Lib.hid (show ∀ k, Dis (L k) 4096 from fun k => by rw [hL]; exact dis_adds _ (dis_nil 4096))
    have HLo := Lib.hid (show ∀ k, ∀ x ∈ L k, Okv x from fun k => by rw [hL]; exact adds_all _ (fun x hx => by cases hx) (fun x hx => Hok.out x (List.mem_of_mem_take hx)))
    have HLa := Lib.hid (show ∀ k, k < l.length → May (l.getD k default) → add (L k) 4096 (l.getD k default) = (L (k + 1), (raw l).getD k 0, 0) from fun k hk hm => by rw [hL]; exact add_raw Hl.out hk hm)
    clear hL
    have I0 : Hid (Grow w wc d g n (L 0) (Wd.fill (raw l) 0)) := Lib.hid (by rw [HL0.out, Wd.fill_zero, raw_len, ← Hn.out]; exact hI.out)
    clear hI
    go_wp2_with fail
    go_loopw [21] (fun j wr => ∃ k : Nat, j = .int .i64 k ∧ k ≤ n ∧ Hid (Grow w wr d g n (L k) (Wd.fill (raw l) k)) ∧ Hid (∀ j, j < k → May (l.getD j default))) (fun j _ => n - (intOf j).toNat)
    case atStart => exact ⟨0, rfl, Nat.zero_le _, I0, Lib.hid (fun j hj => by omega)⟩
    case round =>
      obtain ⟨k, rfl, hk, hG, hM⟩ := hrel
      by_cases hkn : k < n
      · have hkI : (k : Int) < n := by omega
        have hk0 : (0 : Int) ≤ (k : Int) := by omega
        have hkl : k < l.length := by rw [← Hn.out]; exact hkn
        obtain ⟨e, f, hA, heB, d0, d1, d2, d3, hv1⟩ := (HV.out.below hG.out.bel).cells (j := k) hkl rfl
        subst hA
        have ha := HLa.out k hkl
        have hbad : ¬ May (l.getD k default) → R = ([], [], 1) := fun q => by
          rw [HR.out]
          exact nrs_no fun h => q (h _ (by rw [List.getD_eq_getElem?_getD, List.getElem?_eq_getElem hkl]; exact List.getElem_mem hkl))
        have hox := Hok.out (l.getD k default) (by rw [List.getD_eq_getElem?_getD, List.getElem?_eq_getElem hkl]; exact List.getElem_mem hkl)
        have hf := Wd.fill_set (raw l) k (by rw [raw_len]; exact hkl)
        obtain ⟨x, hx⟩ : ∃ x, x = l.getD k default := ⟨_, rfl⟩
        rw [← hx] at d0 d1 d2 d3 ha hbad hox
        obtain ⟨vk, vi, vs, vb⟩ := x
        have hG3 := hG.out.below ((Below.refl wr.heap.size wr).alloc (Nat.le_refl _) (.cells #[.int .i64 vk, .int .i64 vi, .string vs, .bool vb] 56))
        have HG3 := Lib.hid hG3.bel
        obtain ⟨G, ⟨mm, vv, hLay⟩, hRow, hlen, hng, hge, hgg, hbw⟩ := hG3
        have Ca := Lib.hid (Dt.add_any ⟨vk, vi, vs, vb⟩ hLay (HLd.out k) (HLo.out k) hox)
        have Turn := Lib.hid fun w' L' G' hM hD hG => Grow.turn (d := d) (w' := w') (L' := L') (G' := G') hRow hlen hng hge hgg hbw hM hD hG
        have Hx := Lib.hid hx
        have Hf := Lib.hid hf
        have Hbad := Lib.hid hbad
        clear hx hbad hox hLay hRow hlen hng hge hgg hbw hkl hf hv1 hG
        by_cases hmay : May ⟨vk, vi, vs, vb⟩
        · rw [ha hmay] at Ca
          have Hm2 := Lib.hid (show ∀ j, j < k + 1 → May (l.getD j default) from fun j hj => by
            by_cases e : j = k
            · rw [e, ← Hx.out]; exact hmay
            · exact hM.out j (by omega))
          obtain ⟨q, hq⟩ : ∃ q, q = (raw l).getD k 0 := ⟨_, rfl⟩
          rw [← hq] at Ca
          have Hq := Lib.hid hq
          clear ha hmay hM hq
          go_wp2_with fail
          refine Ca.out.mono ?_
          rintro e w4 ⟨rfl, hM4, G4, hD4, hG4⟩
          have hg4 := Turn.out w4 _ G4 hM4 hD4 hG4
          have hc4 := hg4.row.cell k (by rw [hg4.len]; exact hkn)
          have hf4 := hg4.row.free k
          have HG4 := Lib.hid hg4
          clear hM4 hD4 hG4 hg4
          go_wp2_with fail
          go_roundw
          case rel =>
            refine ⟨k + 1, by go_num, by omega, Lib.hid ?_, Hm2⟩
            have := HG4.out.set k q
            rw [Hq.out, Hf.out] at this
            rw [Hq.out]
            exact this
          case measure => simp [intOf]; omega
        · have hab : add (L k) 4096 ⟨vk, vi, vs, vb⟩ = (L k, 0, 1) := add_bad hmay
          rw [hab] at Ca
          have HRb := Lib.hid (Hbad.out hmay)
          clear ha hmay hM hab
          go_wp2_with fail
          refine Ca.out.mono ?_
          rintro e w4 ⟨rfl, hM4, G4, hD4, hG4⟩
          have HG4 := Lib.hid (Turn.out w4 _ G4 hM4 hD4 hG4).bel
          clear hM4 hD4 hG4
          go_wp2_with fail
          go_ret3
          rw [HRb.out]
          exact ⟨none, 0, 0, none, 0, 0, rfl, Wd.Vs.none_ _, Wd.Sl.none_ _ _, HG4.out, fun a ha => by cases ha⟩
      · have hkI : ¬ (k : Int) < n := by omega
        obtain rfl : k = n := by omega
        have hall : ∀ v ∈ l, May v := fun v hv => by
          obtain ⟨j, hj, rfl⟩ := List.getElem_of_mem hv
          have := hM.out j (by rw [Hn.out]; exact hj)
          simpa [List.getD, hj] using this
        have HRy := Lib.hid (show R = (dct l, ids l, 0) by rw [HR.out]; exact nrs_yes hall)
        have Hto := Lib.hid fun i (hi : i < l.length) => tos_raw Hl.out hall hi
        have hg := hG.out
        rw [Hn.out, HLn.out] at hg
        rw [show Wd.fill (raw l) l.length = raw l by rw [← raw_len l]; exact Wd.fill_all _] at hg
        have hLd := HLd.out l.length
        have hLo := HLo.out l.length
        rw [HLn.out] at hLd hLo
        have HG := Lib.hid hg
        obtain ⟨G, ⟨mm, vv, hLay⟩, hRow, hlen, hng, hge, hgg, hbw⟩ := hg
        have Cs := Lib.hid (Dt.sorted_new hLay hLd hLo)
        have hgl := hRow.lt
        clear hLay hRow hlen hng hge hgg hbw hLd hLo hG hM hall
        go_wp2_with fail
        refine Cs.out.mono ?_
        rintro e w5 ⟨A5, n5, c5, B5, m5, k5, rfl, hV5, hS5, hB5, hnew, hnewA⟩
        have HnA := Lib.hid (fun a (ha : A5 = some a) => Nat.le_trans HG.out.bel.size (hnewA a ha))
        clear hnewA
        have hg5 := HG.out.below hB5
        have hR5 := hg5.row
        have HneV := Lib.hid (row_ne hR5 hV5)
        have HneS := Lib.hid (show ∀ a, B5 = some a → a.block ≠ g from fun a ha => by have := hnew a ha; omega)
        have I1 := Lib.hid (And.intro hg5.bel (And.intro hV5 hS5))
        have hgg : w.heap.size ≤ g := by
          obtain ⟨_, _, _, _, _, _, q, _⟩ := hg5
          exact q
        have hm5 := hS5.cap
        have hx5 := hS5.max
        unfold maxLen at hx5
        have Hlen := Lib.hid (show (ids l).length = (raw l).length by rw [ids_len, raw_len])
        have I2 := Lib.hid (show Wd.Row w5 g .i64 3 (blend (ids l) (raw l) 0) by rw [blend_zero]; exact hR5)
        have Hm5 := Lib.hid hS5.len
        clear Cs HG hV5 hS5 hB5 hnew hg5 hR5
        go_wp2_with fail
        go_loopw [47] (fun j wr => ∃ i : Nat, j = .int .i64 i ∧ i ≤ k ∧ Wd.Row wr g .i64 3 (blend (ids l) (raw l) i) ∧ Hid (Below w.heap.size w wr ∧ Wd.Vs wr A5 n5 c5 (srt (adds 4096 [] l)) ∧ Wd.Sl wr .i64 B5 m5 k5 (tos (adds 4096 [] l)))) (fun j _ => k - (intOf j).toNat)
        case atStart => exact ⟨0, rfl, Nat.zero_le _, I2.out, I1⟩
        case round =>
          obtain ⟨i, rfl, hik, hR, hI⟩ := hrel
          by_cases hin : i < k
          · have hiI : (i : Int) < k := by omega
            have hi0 : (0 : Int) ≤ (i : Int) := by omega
            have hil : i < l.length := by rw [← Hn.out]; exact hin
            have hir : i < (raw l).length := by rw [raw_len]; exact hil
            obtain ⟨z, e1, e2, e3⟩ := Hto.out i hil
            have hc := hR.cell i (by rw [blend_len Hlen.out]; exact hir)
            rw [blend_at Hlen.out hir, e1] at hc
            have hf := hR.free i
            obtain ⟨b, o, hP, hbl, hc2⟩ := hI.out.2.2.rd z e2
            subst hP
            rw [e3] at hc2
            have hzm : (z : Int) < (m5 : Int) := by rw [Hm5.out]; omega
            have hz0 : (0 : Int) ≤ (z : Int) := by omega
            have hbs := blend_set Hlen.out hir
            obtain ⟨q, hq⟩ : ∃ q, q = (ids l).getD i 0 := ⟨_, rfl⟩
            rw [← hq] at hc2 hbs
            have Hbs := Lib.hid hbs
            have HR := Lib.hid hR
            clear hq hbs e1 e2 e3 hil hir hR
            go_wp2_with fail
            go_roundw
            case rel =>
              refine ⟨i + 1, by go_num, by omega, ?_, Lib.hid ⟨hI.out.1.setCell hgg _, vs_store hI.out.2.1 HneV.out _ _, sl_store' hI.out.2.2 HneS.out _ _⟩⟩
              rw [← Hbs.out]
              exact HR.out.set i q
            case measure => simp [intOf]; omega
          · have hiI : ¬ (i : Int) < k := by omega
            obtain rfl : i = k := by omega
            have hR2 : Wd.Row wr g .i64 3 (ids l) := by
              have := blend_all Hlen.out
              rw [← this, show (raw l).length = i by rw [raw_len, Hn.out]]
              exact hR
            have HR2 := Lib.hid (hR2.sl i (by rw [ids_len]; exact Hn.out) (by unfold maxLen; omega))
            clear hR hR2
            go_wp2_with fail
            go_ret3
            rw [HRy.out]
            exact ⟨A5, n5, c5, _, _, _, rfl, hI.out.2.1, HR2.out, hI.out.1, HnA.out⟩
end Cx
end Go.Proofs.YtoibpbnebcoafaaGreat
