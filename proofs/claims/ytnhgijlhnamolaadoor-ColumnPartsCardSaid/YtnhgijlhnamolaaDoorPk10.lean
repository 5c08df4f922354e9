/- What the reference of layer 8 does: Find, Place, Rises, Search. What the reference of layer 8 does: Search; and few of the statements of layer 8. Rows of values of the call's own: append of one value, as one step of a list of operations and of a region that draws. Rows of values: what Decode answers; their numbers are the machine's. What the reference of layer 8 does: Add. -/
import Derived.Deep.RegionWith
import Derived.Deep.RegionHeld3
import Derived.BigRegion
import Derived.IntWalk
import Derived.BigQuiet
import Derived.Deep.QuietTactic
import Derived.Maps.AppendAt
import Derived.Deep.RegionLaw
import Derived.Test.YtnhgijlhnamolaaDoorPk06
import Derived.Test.YtnhgijlhnamolaaDoorPk09
import Derived.Test.YtnhgijlhnamolaaDoorPk08
import Derived.Test.YtnhgijlhnamolaaDoorPk05
namespace Go.Proofs.YtnhgijlhnamolaaDoor
set_option maxRecDepth 20000
open Go.RowKit
namespace Dc
open Va (Vl May ord)
open Sc (tr tr_yes tr_no)
theorem getD_at {vs : List Vl} {k : Nat} (h : k < vs.length) : vs[k]? = some (vs.getD k default) := by simp [List.getD, List.getElem?_eq_getElem h]
theorem getD_mem {vs : List Vl} {k : Nat} (h : k < vs.length) : vs.getD k default ∈ vs := List.mem_of_getElem? (getD_at h)
theorem drop_at {vs : List Vl} {k : Nat} (h : k < vs.length) : vs.drop k = vs.getD k default :: vs.drop (k + 1) := by
  rw [List.getD_eq_getElem?_getD, List.getElem?_eq_getElem h]
  exact List.drop_eq_getElem_cons h
theorem fnd_step {vs : List Vl} {v : Vl} {k : Nat} (h : k < vs.length) : fndF (vs.drop k) v (k : Int) = if vs.getD k default = v then (k : Int) else fndF (vs.drop (k + 1)) v ((k + 1 : Nat) : Int) := by
  rw [drop_at h, fndF]
  by_cases q : vs.getD k default = v
  · rw [if_pos q, if_pos q]
  · rw [if_neg q, if_neg q]
    rfl
theorem place_take {vs : List Vl} {v : Vl} {k : Nat} (h : k < vs.length) : place (vs.take (k + 1)) v = place (vs.take k) v + (if ord (vs.getD k default) v < 0 then 1 else 0) := by
  rw [List.take_add_one, getD_at h]
  unfold place
  rw [List.countP_append]
  simp [List.countP_cons]
theorem ris_iff (vs : List Vl) : Ris vs ↔ ∀ i, i < vs.length → May (vs.getD i default) ∧ (0 < i → ord (vs.getD (i - 1) default) (vs.getD i default) < 0) := by
  constructor
  · intro h i hi
    refine ⟨h.1 _ (getD_mem hi), fun h0 => ?_⟩
    have := (List.pairwise_iff_getElem.1 h.2) (i - 1) i (by omega) hi (by omega)
    simpa [List.getD, List.getElem?_eq_getElem hi, List.getElem?_eq_getElem (show i - 1 < vs.length by omega)] using this
  · intro h
    refine ⟨fun x hx => ?_, ?_⟩
    · obtain ⟨i, hi⟩ := List.getElem?_of_mem hx
      have hl := (List.getElem?_eq_some_iff.1 hi).1
      have := (h i hl).1
      rw [getD_at hl] at hi
      rw [Option.some.inj hi] at this
      exact this
    · have key : ∀ (n i : Nat), i + (n + 1) < vs.length → ord (vs.getD i default) (vs.getD (i + (n + 1)) default) < 0 := by
        intro n
        induction n with
        | zero => intro i hi; simpa using (h (i + 1) (by omega)).2 (by omega)
        | succ n ih =>
          intro i hi
          have h1 := ih i (by omega)
          have h2 := (h (i + (n + 1 + 1)) hi).2 (by omega)
          rw [show i + (n + 1 + 1) - 1 = i + (n + 1) by omega] at h2
          exact lt_trans h1 h2
      unfold Up
      rw [List.pairwise_iff_getElem]
      intro i j hi hj hij
      have := key (j - i - 1) i (by omega)
      rw [show i + (j - i - 1 + 1) = j by omega] at this
      simpa [List.getD, List.getElem?_eq_getElem hi, List.getElem?_eq_getElem hj] using this
end Dc
namespace Dx
open Va (Vl May ord)
open Vc (mayB mayB_iff refMay_any refOrder_any)
open Sc (tr tr_yes tr_no tr_iff)
open Dc
set_option maxHeartbeats 4000000 in
theorem refFind_any (R : Option Addr) (m d : Nat) (vs : List Vl) (k i : Int) (s : ByteArray) (b : Bool) (w : World) (hV : Wd.Vs w R m d vs) :
    Calls Tryd.prog 30 #[.slice R m d, .agg #[.int .i64 k, .int .i64 i, .string s, .bool b]] w fun e w' => e = .returned (.int .i64 (fnd vs ⟨k, i, s, b⟩)) ∧ Below w.heap.size w w' := by
  have hb0 := (Below.refl w.heap.size w).alloc (Nat.le_refl _) (.cells #[.int .i64 k, .int .i64 i, .string s, .bool b] 48)
  have x0 : Vc.Vb (w.alloc (.cells #[.int .i64 k, .int .i64 i, .string s, .bool b] 48)) w.heap.size k i s b := Wd.Bx.new w _ _
  have Hm := Lib.hid hV.len
  have HV := Lib.hid (hV.below hb0)
  have hcap := hV.cap
  have hmx := hV.max
  unfold maxLen at hmx
  obtain ⟨F, hF⟩ : ∃ F, F = fnd vs ⟨k, i, s, b⟩ := ⟨_, rfl⟩
  rw [← hF]
  have HF := Lib.hid hF
  clear hV hF
  have hgt : Tryd.prog.eqGuardType Tryd.prog.depth 48 = false := by kernel_rfl
  have Hx0 := Lib.hid x0
  clear x0
  go_enter Tryd.func30, Tryd.ntmps30
  go_wp2
  generalize w.alloc (.cells #[.int .i64 k, .int .i64 i, .string s, .bool b] 48) = wa at *
  have hl0 := Wd.Bx.lt Hx0.out
  go_loopw [5] (fun j wr => ∃ n : Nat, j = .int .i64 n ∧ n ≤ m ∧ Hid (fndF (vs.drop n) ⟨k, i, s, b⟩ (n : Int) = F) ∧ Below wa.heap.size wa wr) (fun j _ => m - (intOf j).toNat)
  case atStart => exact ⟨0, rfl, Nat.zero_le _, Lib.hid (by rw [HF.out]; rfl), Below.refl _ _⟩
  case round =>
    obtain ⟨n, rfl, hn, hf, hB⟩ := hrel
    obtain ⟨⟨y0, y1, y2, y3⟩, -⟩ := Vc.four (Hx0.out.below hl0 hB)
    by_cases hlt : n < m
    · obtain ⟨e, f, hR, heB, d0, d1, d2, d3, _⟩ := (HV.out.below hB).cells (j := n) (by rw [← Hm.out]; exact hlt) rfl
      subst hR
      have hst := fnd_step (vs := vs) (v := ⟨k, i, s, b⟩) (k := n) (by rw [← Hm.out]; exact hlt)
      rw [hf.out] at hst
      obtain ⟨v, hv⟩ : ∃ v, v = vs.getD n default := ⟨_, rfl⟩
      rw [← hv] at d0 d1 d2 d3 hst
      clear hv hf
      have heq := fun w => Vc.eqV v.kind v.i v.s v.b k i s b w
      by_cases hz : v = ⟨k, i, s, b⟩
      · rw [if_pos hz] at hst
        subst hz
        have HF2 := Lib.hid hst
        rw [decide_eq_true (by simp)] at heq
        clear hst
        go_wp2_with fail
        go_quiet (fail)
        go_wp2_with fail
        go_ret
        exact ⟨by rw [HF2.out]; rfl, hb0.trans ((Wd.below_drewN hB _).mono hb0.size)⟩
      · rw [if_neg hz] at hst
        have HF2 := Lib.hid hst.symm
        rw [decide_eq_false (fun h => hz (by obtain ⟨k1, i1, s1, b1⟩ := v; simp only [] at h; obtain ⟨rfl, rfl, rfl, rfl⟩ := h; rfl))] at heq
        clear hst hz
        go_wp2_with fail
        go_quiet (fail)
        go_wp2_with fail
        go_roundw
        case rel => exact ⟨n + 1, by go_num, by omega, HF2, Wd.below_drewN hB _⟩
        case measure => simp [intOf]; omega
    · have hkI : ¬ (n : Int) < m := by omega
      have e : F = -1 := by
        have := hf.out
        rw [List.drop_of_length_le (by rw [← Hm.out]; omega)] at this
        exact this.symm
      have He := Lib.hid e
      clear e hf
      go_wp2_with fail
      go_ret
      exact ⟨by rw [He.out]; rfl, hb0.trans (hB.mono hb0.size)⟩
set_option maxHeartbeats 4000000 in
theorem Place_any (R : Option Addr) (m d : Nat) (vs : List Vl) (k i : Int) (s : ByteArray) (b : Bool) (w : World) (hV : Wd.Vs w R m d vs) (hs : ∀ x ∈ vs, x.s.size ≤ maxLen) :
    Calls Tryd.prog 54 #[.slice R m d, .agg #[.int .i64 k, .int .i64 i, .string s, .bool b]] w fun e w' => e = .returned (.int .i64 (place vs ⟨k, i, s, b⟩ : Nat)) ∧ Below w.heap.size w w' := by
  have hb0 := (Below.refl w.heap.size w).alloc (Nat.le_refl _) (.cells #[.int .i64 k, .int .i64 i, .string s, .bool b] 48)
  have x0 : Vc.Vb (w.alloc (.cells #[.int .i64 k, .int .i64 i, .string s, .bool b] 48)) w.heap.size k i s b := Wd.Bx.new w _ _
  have Hm := Lib.hid hV.len
  have HV := Lib.hid (hV.below hb0)
  have Hs := Lib.hid hs
  have hcap := hV.cap
  have hmx := hV.max
  unfold maxLen at hmx
  obtain ⟨F, hF⟩ : ∃ F, F = place vs ⟨k, i, s, b⟩ := ⟨_, rfl⟩
  rw [← hF]
  have HF := Lib.hid hF
  clear hV hF hs
  have Hx0 := Lib.hid x0
  clear x0
  go_enter Tryd.func54, Tryd.ntmps54
  go_wp2
  generalize w.alloc (.cells #[.int .i64 k, .int .i64 i, .string s, .bool b] 48) = wa at *
  have hl0 := Wd.Bx.lt Hx0.out
  go_loopw [5, 6] (fun g j wr => ∃ n c : Nat, j = .int .i64 n ∧ g = .int .i64 c ∧ n ≤ m ∧ c ≤ n ∧ Hid (c = place (vs.take n) ⟨k, i, s, b⟩) ∧ Below wa.heap.size wa wr) (fun _ j _ => m - (intOf j).toNat)
  case atStart => exact ⟨0, 0, rfl, rfl, Nat.zero_le _, Nat.le_refl _, Lib.hid (by simp [place]), Below.refl _ _⟩
  case round =>
    obtain ⟨n, c, rfl, rfl, hn, hcn, hf, hB⟩ := hrel
    obtain ⟨⟨y0, y1, y2, y3⟩, -⟩ := Vc.four (Hx0.out.below hl0 hB)
    by_cases hlt : n < m
    · have hnl : n < vs.length := by rw [← Hm.out]; exact hlt
      obtain ⟨e, f, hR, heB, d0, d1, d2, d3, _⟩ := (HV.out.below hB).cells (j := n) hnl rfl
      subst hR
      have hst := place_take (v := ⟨k, i, s, b⟩) hnl
      have hsz := Hs.out _ (getD_mem hnl)
      rw [← hf.out] at hst
      obtain ⟨v, hv⟩ : ∃ v, v = vs.getD n default := ⟨_, rfl⟩
      rw [← hv] at d0 d1 d2 d3 hst hsz
      clear hv hf hnl
      have hBd := hB.drew
      have Co := Lib.hid (refOrder_any v.kind v.i v.s v.b k i s b wr.drew hsz)
      clear hsz
      obtain ⟨o, ho⟩ : ∃ o, o = ord v ⟨k, i, s, b⟩ := ⟨_, rfl⟩
      rw [show ord ⟨v.kind, v.i, v.s, v.b⟩ ⟨k, i, s, b⟩ = o from ho.symm] at Co
      rw [← ho] at hst
      have Hst := Lib.hid hst
      clear ho hst
      by_cases hz : o < 0
      · have H2 := Lib.hid (Hst.out.trans (by rw [if_pos hz]))
        clear Hst
        go_wp2_with fail
        go_region_with (go_at_call 21; (with_reducible refine Co.out.mono ?_); rintro q w3 ⟨rfl, hB3⟩; have hb3 : Below wa.heap.size wa w3 := hBd.trans (hB3.mono hBd.size))
        all_goals (
          go_wp2_with fail
          go_roundw
          case rel => exact ⟨n + 1, c + 1, by go_num, by go_num, by omega, by omega, Lib.hid H2.out.symm, hb3⟩
          case measure => simp [intOf]; omega)
      · have H2 := Lib.hid (Hst.out.trans (by rw [if_neg hz]))
        clear Hst
        go_wp2_with fail
        go_region_with (go_at_call 21; (with_reducible refine Co.out.mono ?_); rintro q w3 ⟨rfl, hB3⟩; have hb3 : Below wa.heap.size wa w3 := hBd.trans (hB3.mono hBd.size))
        all_goals (
          go_wp2_with fail
          go_roundw
          case rel => exact ⟨n + 1, c, by go_num, rfl, by omega, by omega, Lib.hid H2.out.symm, hb3⟩
          case measure => simp [intOf]; omega)
    · have hkI : ¬ (n : Int) < m := by omega
      have e : c = F := by
        have := hf.out
        rw [List.take_of_length_le (by rw [← Hm.out]; omega)] at this
        rw [this, HF.out]
      have He := Lib.hid e
      clear e hf
      go_wp2_with fail
      go_ret
      exact ⟨by rw [He.out]; rfl, hb0.trans (hB.mono hb0.size)⟩
end Dx
end Go.Proofs.YtnhgijlhnamolaaDoor
namespace Go.Proofs.YtnhgijlhnamolaaDoor
set_option maxRecDepth 20000
open Go.RowKit
namespace Dx
open Va (Vl May ord)
open Vc (mayB mayB_iff refMay_any refOrder_any)
open Sc (tr tr_yes tr_no tr_iff)
open Dc
/-- What Search answers. -/
noncomputable def schN (l : List Vl) (v : Vl) : Int := if tr (May v ∧ Ris l) = true then (place l v : Int) else 0
noncomputable def schB (l : List Vl) (v : Vl) : Bool := tr (May v ∧ Ris l ∧ v ∈ l)
/-- Are there at most 100 values, of texts of at most 300 bytes? -/
def FewV (vs : List Vl) : Prop := vs.length ≤ 100 ∧ ∀ i, i < vs.length → (vs.getD i default).s.size ≤ 300
theorem light1 (x : Vl) : Sx.LightS [x] ↔ x.s.size ≤ 300 := by
  constructor
  · intro h
    exact h.2 0 (by simp)
  · intro h
    exact ⟨by simp, fun i hi => by
      obtain rfl : i = 0 := by simpa using hi
      exact h⟩
/-- One value of a slice of values, as a slice. -/
theorem vs_one {w : World} {b o n c : Nat} {vs : List Vl} (h : Wd.Vs w (some ⟨b, o, none⟩) n c vs) {k : Nat} (hk : k < vs.length) : Wd.Vs w (some ⟨b, o + k * 4, none⟩) 1 (c - k) [vs.getD k default] := by
  have hl := h.len
  have hc := h.cap
  have hm := h.max
  refine ⟨rfl, by omega, by omega, by simp, fun j hj => ?_⟩
  obtain rfl : j = 0 := by simpa using hj
  obtain ⟨b', o', e, hlt, hcell, h1⟩ := h.at_ k hk
  obtain ⟨rfl, rfl⟩ : b = b' ∧ o = o' := by cases e; exact ⟨rfl, rfl⟩
  exact ⟨b, o + k * 4, rfl, hlt, fun i v hv => by have := hcell i v hv; rw [show o + k * 4 + (0 * 4 + i) = o + (k * 4 + i) by omega]; exact this, h1⟩
end Dx
end Go.Proofs.YtnhgijlhnamolaaDoor
namespace Go.Proofs.YtnhgijlhnamolaaDoor
set_option maxRecDepth 20000
open Go.RowKit Go.Maps
namespace Wd
open Va (Vl)
def flatV (L : List Vl) : List Value := L.flatMap vals
theorem flatV_app (L M : List Vl) : flatV (L ++ M) = flatV L ++ flatV M := List.flatMap_append
theorem flatV_one (v : Vl) : flatV [v] = vals v := by simp [flatV]
theorem flatV_len : ∀ L : List Vl, (flatV L).length = L.length * 4
  | [] => rfl
  | f :: r => by show (vals f ++ flatV r).length = _; rw [List.length_append, flatV_len r, List.length_cons]; simp [vals]; omega
theorem flatV_get : ∀ (L : List Vl) (j : Nat), j < L.length → ∀ i v, (vals (L.getD j default))[i]? = some v → (flatV L)[j * 4 + i]? = some v
  | [], _, h, _, _, _ => by simp at h
  | f :: r, 0, _, i, v, hv => by
    show (vals f ++ flatV r)[0 * 4 + i]? = some v
    have hi : i < (vals f).length := (List.getElem?_eq_some_iff.1 (by simpa using hv)).1
    rw [Nat.zero_mul, Nat.zero_add, List.getElem?_append_left hi]
    simpa using hv
  | f :: r, j + 1, h, i, v, hv => by
    have := flatV_get r j (by simpa using h) i v (by simpa using hv)
    show (vals f ++ flatV r)[(j + 1) * 4 + i]? = some v
    rw [List.getElem?_append_right (by simp [vals]; omega)]
    rw [show (j + 1) * 4 + i - (vals f).length = j * 4 + i by simp [vals]; omega]
    exact this
/-- A row of the call's own that holds values, as a slice of such. -/
theorem Vs.of_own {w : World} {base : Nat} {e : TypeId} {v : Value} {n : Nat} {L : List Vl} (h : w.ownsRow base e 4 v n (flatV L)) (h1 : ∀ j, j < L.length → V1 (L.getD j default)) : ∃ A n c, v = .slice A n c ∧ Vs w A n c L := by
  have hl : n = L.length := by have := h.1; rw [flatV_len] at this; omega
  subst hl
  rcases h.2 with ⟨rfl, h0⟩ | ⟨g, cap, cur, rfl, hb, hg, h2, h3, h4, h5⟩
  · have : L = [] := List.eq_nil_of_length_eq_zero h0
    subst this
    exact ⟨none, 0, 0, rfl, Vs.none_ _⟩
  · refine ⟨_, _, _, rfl, ⟨rfl, h2, h3, by simp, fun j hj => ⟨g, 0, rfl, (Array.getElem?_eq_some_iff.1 hg).1, fun i u hu => ?_, h1 j hj⟩⟩⟩
    rw [Nat.zero_add]
    have hi : i < 4 := by have := (List.getElem?_eq_some_iff.1 hu).1; simpa [vals] using this
    exact (h.cellAt (j * 4 + i) (by omega)).trans (flatV_get L j hj i u hu)
theorem info_vl : (Tryd.prog.info? 48).map (fun i => (i.zero, i.size, i.bytes)) = some (some (.agg #[.int .i64 0, .int .i64 0, .string ⟨#[]⟩, .bool false]), 4, 40) := by kernel_rfl
theorem vals_one (o : Vl) : ∀ u ∈ vals o, u.oneCell' = true := by
  intro u hu
  simp only [vals, List.mem_cons, List.not_mem_nil, or_false] at hu
  rcases hu with rfl | rfl | rfl | rfl <;> rfl
theorem vals_new (w : World) (o : Vl) (cs : Array Value) (hc : cs = (vals o).toArray) : ∀ j u, (vals o)[j]? = some u → (w.alloc (.cells cs 48)).cell? ((⟨w.heap.size, 0, none⟩ : Addr).add j) = some u := by
  intro j u hu
  subst hc
  rw [Addr.add_lit, Nat.zero_add, (Wd.Bx.new w 48 (vals o).toArray).cell j]
  simpa using hu
/-- append of one value. -/
theorem run_appV (w : World) (ty : TypeId) (B : Nat) (v : Value) (L : List Vl) (hown : w.ownsRow B 48 4 v L.length (flatV L)) (ad : Addr) (o : Vl) (hc : ∀ j u, (vals o)[j]? = some u → w.cell? (ad.add j) = some u) (hL : L.length ≤ 1000000) (hB : B ≤ w.heap.size) :
    ∃ v' w', (Builtin.append_ #[22, 22] ty #[v, .slice (some ad) 1 1]).run Tryd.prog w = .ok v' w' ∧ w'.ownsRow B 48 4 v' (L ++ [o]).length (flatV (L ++ [o])) ∧ w.grownBy w' v.ownBlock := by
  obtain ⟨i0, hi, hz0, hz1, hz2⟩ := info_parts info_vl
  obtain ⟨v', w', hrun, h2, h3, _, _⟩ := run_append_own_at (P := Tryd.prog) w B 22 ty 48 i0 _ 4 40 Tryd.underlying22 hi hz0 hz1 hz2 rfl (by decide) v L.length _ hown ad 1 1 (vals o) rfl hc (vals_one o) (by unfold maxLen; omega) (by omega) hB
  exact ⟨v', w', hrun, by rw [List.length_append, flatV_app, flatV_one]; exact h2, h3⟩
theorem step_appV (w : World) {ops : Array Oper} {o : Oper} {a : Act} {K : Act → World → Prop} {Q : Exit → Act → World → Prop} {E : Prop} (hgd : o.guard = none) (s x : Operand)
    (ho : o.op = .call { callee := .builtin .append, args := #[s, x], argTypes := #[22, 22] })
    (B : Nat) (v : Value) (L : List Vl) (hs : a.eval s = v) (hown : w.ownsRow B 48 4 v L.length (flatV L)) (ad : Addr) (y : Vl) (hx : a.eval x = .slice (some ad) 1 1) (hc : ∀ j u, (vals y)[j]? = some u → w.cell? (ad.add j) = some u) (hL : L.length ≤ 1000000) (hB : B ≤ w.heap.size)
    (h : ∀ v' w', w'.ownsRow B 48 4 v' (L ++ [y]).length (flatV (L ++ [y])) → w.grownBy w' v.ownBlock → K (a.put o.dst v') w') : if Region.wanted o (yielded ops a.tmps) = true then Oper.wp Tryd.prog o a w K Q else E := by
  rw [if_pos (by simp [Region.wanted, hgd])]
  obtain ⟨v', w', hrun, h2, h3⟩ := run_appV w o.type B v L hown ad y hc hL hB
  unfold Oper.wp
  simp [execOp, ho, resolve, invoke, builtin, hs, hx, hrun, Result.andThen]
  exact h v' w' h2 h3
theorem wpList_appV1 (w : World) {ops : Array Oper} {rest : List Oper} {o : Oper} {a : Act} {Q : Exit → Act → World → Prop} (hgd : o.guard = none) (s x : Operand)
    (ho : o.op = .call { callee := .builtin .append, args := #[s, x], argTypes := #[22, 22] })
    (B : Nat) (v : Value) (L : List Vl) (hs : a.eval s = v) (hown : w.ownsRow B 48 4 v L.length (flatV L)) (ad : Addr) (y : Vl) (hx : a.eval x = .slice (some ad) 1 1) (hc : ∀ j u, (vals y)[j]? = some u → w.cell? (ad.add j) = some u) (hL : L.length ≤ 1000000) (hB : B ≤ w.heap.size)
    (h : ∀ v' w', w'.ownsRow B 48 4 v' (L ++ [y]).length (flatV (L ++ [y])) → w.grownBy w' v.ownBlock → wpList Tryd.prog ops Q rest (a.put o.dst v') w') : wpList Tryd.prog ops Q (o :: rest) a w := by
  refine wpList_plain hgd fun K hK => ?_
  obtain ⟨v', w', hrun, h2, h3⟩ := run_appV w o.type B v L hown ad y hc hL hB
  unfold Oper.wp
  simp [execOp, ho, resolve, invoke, builtin, hs, hx, hrun, Result.andThen]
  exact hK _ _ (h v' w' h2 h3)
theorem flatV_cell {M : List Vl} {j : Nat} {u : Value} (h : (flatV M)[j]? = some u) : j / 4 < M.length ∧ (vals (M.getD (j / 4) default))[j % 4]? = some u := by
  have hj : j < M.length * 4 := by have := (List.getElem?_eq_some_iff.1 h).1; rw [flatV_len] at this; exact this
  have hk : j / 4 < M.length := by omega
  have hi : j % 4 < (vals (M.getD (j / 4) default)).length := by simp [vals]; omega
  have hv : (vals (M.getD (j / 4) default))[j % 4]? = some ((vals (M.getD (j / 4) default))[j % 4]) := List.getElem?_eq_getElem hi
  have := flatV_get M (j / 4) hk (j % 4) _ hv
  rw [show j / 4 * 4 + j % 4 = j by omega, h] at this
  exact ⟨hk, by rw [hv]; exact this.symm⟩
theorem flatV_one' (M : List Vl) : ∀ u ∈ flatV M, u.oneCell' = true := fun u hu => by
  obtain ⟨o, _, h⟩ := List.mem_flatMap.1 hu
  exact vals_one o u h
/-- append of a slice of values. -/
theorem run_appVs (w : World) (ty : TypeId) (B : Nat) (v : Value) (L : List Vl) (hown : w.ownsRow B 48 4 v L.length (flatV L)) (A : Option Addr) (m c : Nat) (M : List Vl) (hV : Vs w A m c M) (hL : L.length + M.length ≤ 1000000) (hB : B ≤ w.heap.size) :
    ∃ v' w', (Builtin.append_ #[22, 22] ty #[v, .slice A m c]).run Tryd.prog w = .ok v' w' ∧ w'.ownsRow B 48 4 v' (L ++ M).length (flatV (L ++ M)) ∧ w.grownBy w' v.ownBlock := by
  obtain ⟨i0, hi, hz0, hz1, hz2⟩ := info_parts info_vl
  have hm := hV.len
  rcases A with _ | ad
  · obtain rfl := hV.nil rfl
    obtain rfl : m = 0 := by have := hV.cap; omega
    have hM : M = [] := List.eq_nil_of_length_eq_zero hm.symm
    subst hM
    refine ⟨v, w, ?_, by simpa using hown, World.grownBy.refl w _⟩
    exact run_append_owned_none (P := Tryd.prog) w B 22 ty 48 i0 4 Tryd.underlying22 hi v L.length _ hown
  · have hcells : ∀ j u, (flatV M)[j]? = some u → w.cell? (ad.add j) = some u := by
      intro j u hu
      obtain ⟨hk, hv⟩ := flatV_cell hu
      obtain ⟨b, o, e1, _, hc, _⟩ := hV.at_ (j / 4) hk
      cases e1
      have := hc _ _ hv
      rw [show o + (j / 4 * 4 + j % 4) = o + j by omega] at this
      rw [Addr.add_lit]
      exact this
    obtain ⟨v', w', hrun, h2, h3, _, _⟩ := run_append_own_at (P := Tryd.prog) w B 22 ty 48 i0 _ 4 40 Tryd.underlying22 hi hz0 hz1 hz2 rfl (by decide) v L.length _ hown ad m c (flatV M) (by rw [flatV_len, hm]) hcells (flatV_one' M) (by unfold maxLen; omega) (by omega) hB
    exact ⟨v', w', hrun, by rw [List.length_append, flatV_app, ← hm]; exact h2, h3⟩
theorem wpList_appVs (w : World) {ops : Array Oper} {rest : List Oper} {o : Oper} {a : Act} {Q : Exit → Act → World → Prop} (hgd : o.guard = none) (s x : Operand)
    (ho : o.op = .call { callee := .builtin .append, args := #[s, x], argTypes := #[22, 22] })
    (B : Nat) (v : Value) (L : List Vl) (hs : a.eval s = v) (hown : w.ownsRow B 48 4 v L.length (flatV L)) (A : Option Addr) (m c : Nat) (M : List Vl) (hx : a.eval x = .slice A m c) (hV : Vs w A m c M) (hL : L.length + M.length ≤ 1000000) (hB : B ≤ w.heap.size)
    (h : ∀ v' w', w'.ownsRow B 48 4 v' (L ++ M).length (flatV (L ++ M)) → w.grownBy w' v.ownBlock → wpList Tryd.prog ops Q rest (a.put o.dst v') w') : wpList Tryd.prog ops Q (o :: rest) a w := by
  refine wpList_plain hgd fun K hK => ?_
  obtain ⟨v', w', hrun, h2, h3⟩ := run_appVs w o.type B v L hown A m c M hV hL hB
  unfold Oper.wp
  simp [execOp, ho, resolve, invoke, builtin, hs, hx, hrun, Result.andThen]
  exact hK _ _ (h v' w' h2 h3)
end Wd
end Go.Proofs.YtnhgijlhnamolaaDoor
namespace Go.Proofs.YtnhgijlhnamolaaDoor
set_option maxRecDepth 20000
open Go.RowKit
namespace Sx
open Sc (Col Sch tr MayS dec)
open Va (Vl)
theorem v1_of {v : Vl} (h : Sc.Ok v) : Wd.V1 v := by
  obtain ⟨hm, h0, h1⟩ := h
  refine ⟨?_, ?_⟩
  · have : 0 ≤ v.kind ∧ v.kind ≤ 3 := by
      rcases hm with ⟨q, _⟩ | ⟨q, _⟩ | ⟨q, _⟩ | ⟨q, _⟩ <;> omega
    simp [Lit.wf, IntKind.min, IntKind.max, IntKind.signed, IntKind.bits] <;> omega
  · simp [Lit.wf, IntKind.min, IntKind.max, IntKind.signed, IntKind.bits] <;> omega
theorem v1_app {L : List Vl} {v : Vl} (h : ∀ j, j < L.length → Wd.V1 (L.getD j default)) (h1 : Wd.V1 v) : ∀ j, j < (L ++ [v]).length → Wd.V1 ((L ++ [v]).getD j default) := fun j hj => by
  rw [List.length_append, List.length_singleton] at hj
  by_cases q : j < L.length
  · rw [List.getD_eq_getElem?_getD, List.getElem?_append_left q, ← List.getD_eq_getElem?_getD]
    exact h j q
  · obtain rfl : j = L.length := by omega
    simpa using h1
/-- An answer of a row of values and an error's number. -/
def OutV (w : World) (vs : List Vl) (er : Int) (e : Ending) (w' : World) : Prop := ∃ A n c, e = .returned (.tuple #[.slice A n c, .int .i64 er]) ∧ Wd.Vs w' A n c vs ∧ Below w.heap.size w w'
theorem OutV.err (w : World) {w' : World} (er : Int) (h : Below w.heap.size w w') : OutV w [] er (.returned (.tuple #[.slice none 0 0, .int .i64 er])) w' := ⟨none, 0, 0, rfl, Wd.Vs.none_ _, h⟩
/-- What Decode answers. -/
noncomputable def decL (s : Sch) (bs : List Int) : List Vl := if tr (MayS s) = true then (dec s.cols bs).1 else []
noncomputable def decE (s : Sch) (bs : List Int) : Int := if tr (MayS s) = true then (dec s.cols bs).2 else 1
end Sx
end Go.Proofs.YtnhgijlhnamolaaDoor
namespace Go.Proofs.YtnhgijlhnamolaaDoor
set_option maxRecDepth 20000
open Go.RowKit
namespace Dx
open Va (Vl May ord)
open Vc (mayB mayB_iff refMay_any refOrder_any)
open Sc (tr tr_yes tr_no tr_iff)
open Dc
/-- An answer of a row of values (the argument's, or a new one), a number and an error's number. -/
def OutA (w : World) (R : Option Addr) (r : List Vl × Int × Int) (e : Ending) (w' : World) : Prop := ∃ A n c, e = .returned (.tuple #[.slice A n c, .int .i64 r.2.1, .int .i64 r.2.2]) ∧ Wd.Vs w' A n c r.1 ∧ Below w.heap.size w w' ∧ (A = R ∨ ∀ a, A = some a → w.heap.size ≤ a.block ∧ a.block < w'.heap.size)
theorem own_loc {w : World} {B : Nat} {e : TypeId} {size k n c : Nat} {A : Option Addr} {xs : List Value} (h : w.ownsRow B e size (.slice A n c) k xs) : ∀ a, A = some a → B ≤ a.block ∧ a.block < w.heap.size := by
  intro a ha
  rcases h.2 with ⟨h', _⟩ | ⟨g', cap', cur, h', hb, hh, _⟩
  · simp only [Value.slice.injEq] at h'
    rw [h'.1] at ha
    cases ha
  · simp only [Value.slice.injEq] at h'
    rw [h'.1] at ha
    cases ha
    exact ⟨hb, lt_of_block hh⟩
theorem lim_len {n : Nat} (k : Int) : lim k ≤ (n : Int) ↔ k ≤ (n : Int) ∨ (4096 : Int) ≤ (n : Int) := by
  unfold lim
  split
  · omega
  · split <;> omega
end Dx
end Go.Proofs.YtnhgijlhnamolaaDoor
