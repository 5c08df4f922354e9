/- The reference's rows in memory: their record, the list of rows (each in a row of its own), the offsets; New. The reference's rows: Column, Own. The reference's rows: words for Append: what is kept while a row and an offset come. -/
import Derived.Test.YtfeolclpgilfdaaPk20
import Derived.Test.YtfeolclpgilfdaaPk21
import Derived.Test.YtfeolclpgilfdaaPk06
namespace Go.Proofs.Ytfeolclpgilfdaa
set_option maxRecDepth 20000
open Go.RowKit Go.Maps
namespace Rf
open Va (Vl May null)
open Sc (Sch FitS MayS fits fits_get tr tr_yes tr_no tr_iff tr_congr)
open Rw
abbrev pt (b : Nat) : Value := .pointer (some ⟨b, 0, none⟩)
/-- The reference's rows of state S at q, in memory that is new since wo. -/
structure RL (wo w : World) (q : Nat) (A : Option Addr) (n c : Nat) (lv ov : Value) (us : List Value) (S : St) : Prop where
  box : Wd.Bx w q 73 #[.slice A n c, .int .i64 S.s.key, .int .i64 S.s.cmp, .int .i64 S.s.del, .int .i64 S.s.sort, .int .i64 S.most, .int .i64 S.vals, lv, ov]
  sch : Wd.Cs wo A n c S.s.cols
  qn : wo.heap.size ≤ q
  rl : w.ownsRow wo.heap.size 38 1 lv S.rows.length us
  ul : us.length = S.rows.length
  el : ∀ j, j < S.rows.length → w.ownsRow wo.heap.size 49 4 (us.getD j undef) (S.rows.getD j []).length (Wd.flatV (S.rows.getD j []))
  off : w.ownsRow wo.heap.size 3 1 ov S.offs.length (S.offs.map (Value.int .i64))
  bel : Below wo.heap.size wo w
/-- Its blocks. -/
def Ft2 (q : Nat) (lv ov : Value) (us : List Value) (x : Nat) : Prop := x = q ∨ lv.ownBlock = some x ∨ ov.ownBlock = some x ∨ ∃ j, j < us.length ∧ (us.getD j undef).ownBlock = some x
section
variable {wo w w' : World} {q : Nat} {A : Option Addr} {n c : Nat} {lv ov : Value} {us : List Value} {S : St}
theorem RL.ft (h : RL wo w q A n c lv ov us S) {x : Nat} (hx : Ft2 q lv ov us x) : wo.heap.size ≤ x ∧ x < w.heap.size := by
  rcases hx with rfl | hx | hx | ⟨j, hj, hx⟩
  · exact ⟨h.qn, h.box.lt⟩
  · have := Wd.own_lt h.rl hx
    exact ⟨this.2.1, this.1⟩
  · have := Wd.own_lt h.off hx
    exact ⟨this.2.1, this.1⟩
  · have := Wd.own_lt (h.el j (by rw [← h.ul]; exact hj)) hx
    exact ⟨this.2.1, this.1⟩
/-- Nothing of it turns. -/
theorem RL.keep {G : Nat → Prop} (h : RL wo w q A n c lv ov us S) (mv : Wd.Mv G w w') (hG : ∀ x, Ft2 q lv ov us x → ¬ G x) (hn : ∀ x, G x → wo.heap.size ≤ x) : RL wo w' q A n c lv ov us S := by
  have k : ∀ x, Ft2 q lv ov us x → w'.heap[x]? = w.heap[x]? := fun x hx => mv.keep x (h.ft hx).2 (hG x hx)
  exact ⟨h.box.at_ (k q (.inl rfl)), h.sch, h.qn, Wd.own_keep h.rl fun x hx => k x (.inr (.inl hx)), h.ul, fun j hj => Wd.own_keep (h.el j hj) fun x hx => k x (.inr (.inr (.inr ⟨j, by rw [h.ul]; exact hj, hx⟩))), Wd.own_keep h.off fun x hx => k x (.inr (.inr (.inl hx))), h.bel.trans (mv.below hn h.bel.size)⟩
theorem RL.below (h : RL wo w q A n c lv ov us S) (hb : Below w.heap.size w w') : RL wo w' q A n c lv ov us S :=
  ⟨h.box.at_ (hb.block q h.box.lt), h.sch, h.qn, Wd.own_below h.rl hb, h.ul, fun j hj => Wd.own_below (h.el j hj) hb, Wd.own_below h.off hb, h.bel.trans (hb.mono h.bel.size)⟩
theorem RL.cs (h : RL wo w q A n c lv ov us S) : w.cell? ⟨q, 0, none⟩ = some (.slice A n c) ∧ w.cell? ⟨q, 1, none⟩ = some (.int .i64 S.s.key) ∧ w.cell? ⟨q, 2, none⟩ = some (.int .i64 S.s.cmp) ∧ w.cell? ⟨q, 3, none⟩ = some (.int .i64 S.s.del) ∧ w.cell? ⟨q, 4, none⟩ = some (.int .i64 S.s.sort) ∧
    w.cell? ⟨q, 5, none⟩ = some (.int .i64 S.most) ∧ w.cell? ⟨q, 6, none⟩ = some (.int .i64 S.vals) ∧ w.cell? ⟨q, 7, none⟩ = some lv ∧ w.cell? ⟨q, 8, none⟩ = some ov :=
  ⟨(h.box.cell 0).trans rfl, (h.box.cell 1).trans rfl, (h.box.cell 2).trans rfl, (h.box.cell 3).trans rfl, (h.box.cell 4).trans rfl, (h.box.cell 5).trans rfl, (h.box.cell 6).trans rfl, (h.box.cell 7).trans rfl, (h.box.cell 8).trans rfl⟩
/-- The j-th row's slice in the list. -/
theorem RL.row (h : RL wo w q A n c lv ov us S) (hV : ∀ x ∈ S.rows, ∀ k, k < x.length → Wd.V1 (x.getD k default)) {j : Nat} (hj : j < S.rows.length) :
    ∃ g cl A' n' c', lv = .slice (some ⟨g, 0, none⟩) S.rows.length cl ∧ g < w.heap.size ∧ w.cell? ⟨g, j, none⟩ = some (.slice A' n' c') ∧ Wd.Vs w A' n' c' (S.rows.getD j []) := by
  rcases h.rl.2 with ⟨_, h0⟩ | ⟨g, cap, cur, rfl, hb, hg, h2, h3, h4, h5⟩
  · omega
  · obtain ⟨A', n', c', he, hv⟩ := Wd.Vs.of_own (h.el j hj) (hV _ (by rw [List.getD_eq_getElem?_getD, List.getElem?_eq_getElem hj]; exact List.getElem_mem hj))
    refine ⟨g, cap, A', n', c', rfl, (Array.getElem?_eq_some_iff.1 hg).1, ?_, hv⟩
    have := h.rl.cellAt (g := g) (cap := cap) j (by omega)
    rw [this, ← he, List.getD_eq_getElem?_getD, List.getElem?_eq_getElem (by rw [h.ul]; exact hj)]
    rfl
end
/-- The same, with the blocks alone in sight. -/
def Rb (wo w : World) (q : Nat) (S : St) (G : Nat → Prop) : Prop := ∃ A n c lv ov us, RL wo w q A n c lv ov us S ∧ ∀ x, G x ↔ Ft2 q lv ov us x
set_option maxHeartbeats 1000000 in
theorem new_any {wo w : World} {A : Option Addr} {n c : Nat} {s : Sch} (most vals : Int) (hb : Below wo.heap.size wo w) (hS : Wd.Cs wo A n c s.cols) (hn : n ≤ 1000) :
    Calls Try.prog 12 #[.agg #[.slice A n c, .int .i64 s.key, .int .i64 s.cmp, .int .i64 s.del, .int .i64 s.sort], .int .i64 most, .int .i64 vals] w fun e w' => Below w.heap.size w w' ∧ ((¬ MayN s most vals ∧ e = .returned (.tuple #[.pointer none, .int .i64 1])) ∨
      (MayN s most vals ∧ ∃ q G, e = .returned (.tuple #[pt q, .int .i64 0]) ∧ Rb wo w' q ⟨s, most, vals, [], []⟩ G ∧ ∀ x, G x → w.heap.size ≤ x)) := by
  have b1 := (Below.refl w.heap.size w).alloc (Nat.le_refl _) (.cells #[.slice A n c, .int .i64 s.key, .int .i64 s.cmp, .int .i64 s.del, .int .i64 s.sort] 24)
  have s0 : Sx.Sb (w.alloc (.cells #[.slice A n c, .int .i64 s.key, .int .i64 s.cmp, .int .i64 s.del, .int .i64 s.sort] 24)) w.heap.size A n c s.key s.cmp s.del s.sort := Wd.Bx.new w _ _
  have HS := Lib.hid hS
  have Hb := Lib.hid hb
  have hSw := (hS.below hb).below b1
  have Cm := Lib.hid (Sx.refMayS_any A n c s _ hSw (by omega))
  have Hb1 := Lib.hid b1
  obtain ⟨u, hu⟩ : ∃ u, u = tr (MayS s) := ⟨_, rfl⟩
  rw [← hu] at Cm
  have Hu := Lib.hid hu
  have S0 := Lib.hid s0
  clear hS hb hSw b1 hu
  obtain ⟨p0, p1, p2, p3, p4⟩ := Sx.five s0
  clear s0
  go_enter Try.func12, Try.ntmps12
  go_wp2_with fail
  generalize w.alloc (.cells #[.slice A n c, .int .i64 s.key, .int .i64 s.cmp, .int .i64 s.del, .int .i64 s.sort] 24) = wa at *
  refine Cm.out.mono ?_
  rintro e w1 ⟨rfl, hB1⟩
  have s1 := S0.out.below (Wd.Bx.lt S0.out) hB1
  have Hb2 := Lib.hid (Hb1.out.trans (hB1.mono Hb1.out.size))
  clear p0 p1 p2 p3 p4 hB1 Cm
  obtain ⟨p0, p1, p2, p3, p4⟩ := Sx.five s1
  clear s1
  cases u with
  | false =>
    have Hno := Lib.hid (show ¬ MayN s most vals from fun q => by have := Hu.out; rw [tr_yes q.1] at this; cases this)
    go_wp2_with fail
    go_ret2
    exact ⟨Hb2.out, .inl ⟨Hno.out, rfl⟩⟩
  | true =>
  by_cases h1 : most < 1
  · have Hno := Lib.hid (show ¬ MayN s most vals from fun q => by have := q.2.1; omega)
    go_wp2_with fail
    go_ret2
    exact ⟨Hb2.out, .inl ⟨Hno.out, rfl⟩⟩
  by_cases h2 : 4096 < most
  · have Hno := Lib.hid (show ¬ MayN s most vals from fun q => by have := q.2.1; omega)
    go_wp2_with fail
    go_ret2
    exact ⟨Hb2.out, .inl ⟨Hno.out, rfl⟩⟩
  by_cases h3 : vals < 1
  · have Hno := Lib.hid (show ¬ MayN s most vals from fun q => by have := q.2.2; omega)
    go_wp2_with fail
    go_ret2
    exact ⟨Hb2.out, .inl ⟨Hno.out, rfl⟩⟩
  by_cases h4 : 4096 < vals
  · have Hno := Lib.hid (show ¬ MayN s most vals from fun q => by have := q.2.2; omega)
    go_wp2_with fail
    go_ret2
    exact ⟨Hb2.out, .inl ⟨Hno.out, rfl⟩⟩
  have Hyes := Lib.hid (show MayN s most vals from ⟨tr_iff.1 Hu.out.symm, ⟨by omega, by omega⟩, ⟨by omega, by omega⟩⟩)
  go_wp2_with fail
  go_ret2
  have hw1 := Hb2.out.size
  have hbz := Hb2.out.alloc Hb2.out.size (.cells #[.slice A n c, .int .i64 s.key, .int .i64 s.cmp, .int .i64 s.del, .int .i64 s.sort, .int .i64 most, .int .i64 vals, .slice none 0 0, .slice none 0 0] 73)
  refine ⟨hbz, .inr ⟨Hyes.out, _, _, rfl, ⟨A, n, c, .slice none 0 0, .slice none 0 0, [], ⟨Wd.Bx.new w1 _ _, HS.out, ?_, World.ownsRow_nil _ _ _ _, rfl, fun j hj => by simp at hj, World.ownsRow_nil _ _ _ _, Hb.out.trans (hbz.mono Hb.out.size)⟩, fun x => Iff.rfl⟩, fun x hx => ?_⟩⟩
  · have := Hb.out.size
    omega
  · rcases hx with hx | hx | hx | ⟨j, hj, _⟩
    · omega
    · simp [Value.ownBlock] at hx
    · simp [Value.ownBlock] at hx
    · simp at hj
end Rf
end Go.Proofs.Ytfeolclpgilfdaa
namespace Go.Proofs.Ytfeolclpgilfdaa
set_option maxRecDepth 20000
open Go.RowKit Go.Maps
namespace Rf
open Va (Vl May null)
open Sc (Sch FitS MayS fits fits_get tr tr_yes tr_no tr_iff tr_congr)
open Rw
theorem v1_rows {S : St} (ok : Ok S) : ∀ x ∈ S.rows, ∀ k, k < x.length → Wd.V1 (x.getD k default) := fun x hx k hk => Sx.v1_of (fit_ok ok hx (by rw [← row_len ok hx]; exact hk))
theorem v1_mem {L : List Vl} (h : ∀ x ∈ L, Wd.V1 x) : ∀ j, j < L.length → Wd.V1 (L.getD j default) := fun j hj => h _ (by rw [List.getD_eq_getElem?_getD, List.getElem?_eq_getElem hj]; exact List.getElem_mem hj)
theorem col_next {R : List (List Vl)} {p k : Nat} (h : p < R.length) : col (R.take (p + 1)) k = col (R.take p) k ++ [(R.getD p []).getD k default] := by rw [take_next [] h, col_snoc]
set_option maxHeartbeats 4000000 in
theorem column_any {wo w : World} {q : Nat} {A : Option Addr} {n c : Nat} {lv ov : Value} {us : List Value} {S : St} (h : RL wo w q A n c lv ov us S) (ok : Ok S) (k : Nat) (hk : k < S.s.cols.length) :
    Calls Try.prog 39 #[pt q, .int .i64 k] w fun e w' => ∃ v, e = .returned v ∧ w'.ownsRow w.heap.size 49 4 v (col S.rows k).length (Wd.flatV (col S.rows k)) ∧ Below w.heap.size w w' := by
  have H := Lib.hid h
  have Hok := Lib.hid ok
  obtain ⟨N, hN⟩ : ∃ N, N = S.rows.length := ⟨_, rfl⟩
  have HN := Lib.hid hN
  have hN4 : N ≤ 4096 := by rw [hN]; have := ok.few; have := ok.m1; omega
  obtain ⟨Al, cl, hlv⟩ : ∃ Al cl, lv = .slice Al N cl := by rw [hN]; exact Dt.own_shape h.rl
  subst hlv
  have hk8 : k < 8 := by have := (cols_len ok).2; omega
  have c7 := h.cs.2.2.2.2.2.2.2.1
  clear hN ok h
  go_enter Try.func39, Try.ntmps39
  go_wp2
  go_loopw [6, 5] (fun i v wr => ∃ p : Nat, i = .int .i64 p ∧ p ≤ N ∧ wr.ownsRow w.heap.size 49 4 v (col (S.rows.take p) k).length (Wd.flatV (col (S.rows.take p) k)) ∧ Below w.heap.size w wr) (fun i _ _ => N - (intOf i).toNat)
  case atStart => exact ⟨0, rfl, Nat.zero_le _, World.ownsRow_nil _ _ _ _, Below.refl _ _⟩
  case round =>
    clear c7
    obtain ⟨p, rfl, hp, hown, hB⟩ := hrel
    have hh := H.out.below hB
    have c7 := hh.cs.2.2.2.2.2.2.2.1
    by_cases hlt : p < N
    · have hps : p < S.rows.length := by rw [← HN.out]; exact hlt
      obtain ⟨g, cl', A', n', c', hlv, hg, c8, hV⟩ := hh.row (v1_rows Hok.out) hps
      rw [← HN.out] at hlv
      cases hlv
      have hTm : S.rows.getD p [] ∈ S.rows := by rw [List.getD_eq_getElem?_getD, List.getElem?_eq_getElem hps]; exact List.getElem_mem hps
      have hkn : k < n' := by rw [hV.len, row_len Hok.out hTm]; exact hk
      obtain ⟨y, hy⟩ : ∃ y, y = (S.rows.getD p []).getD k default := ⟨_, rfl⟩
      obtain ⟨b, o, rfl, hb, d0, d1, d2, d3, -⟩ := hV.cells (j := k) (by rw [← hV.len]; exact hkn) hy
      have hcapk := hV.cap
      have hnx := col_next (k := k) hps
      rw [← hy] at hnx
      have Hnx := Lib.hid hnx
      obtain ⟨L, hL⟩ : ∃ L, L = col (S.rows.take p) k := ⟨_, rfl⟩
      rw [← hL] at hown
      have HL := Lib.hid hL
      have hdk : L.length ≤ 1000000 := by rw [hL, col_len, List.length_take]; omega
      have hO5 : (wr.alloc (.cells #[.int .i64 y.kind, .int .i64 y.i, .string y.s, .bool y.b] 49)).ownsRow w.heap.size 49 4 u5 L.length (Wd.flatV L) := hown.alloc _
      have hcv := Wd.vals_new wr y _ rfl
      have hA5 := hB.alloc hB.size (.cells #[.int .i64 y.kind, .int .i64 y.i, .string y.s, .bool y.b] 49)
      have hz5 := hA5.size
      have hpI : (p : Int) < (N : Int) := by omega
      have hkI : (k : Int) < (n' : Int) := by omega
      have Pk := Lib.hid (And.intro hO5 hA5)
      clear hnx hL hy hV hTm hh hA5 hown hB
      go_wp2_with (at_builtin; refine Wd.wpList_appV1 _ rfl (.tmp 16) (.tmp 27) rfl w.heap.size _ L rfl hO5 _ y rfl hcv hdk hz5 ?_; intro v6 w6 hO6 hg6)
      have hb6 := Pk.out.2.grown hg6 hz5 fun g hg => (Pk.out.1.lt g hg).1
      have HO6 := Lib.hid hO6
      clear hO6 hg6 Pk
      go_wp2_with fail
      go_roundw
      case rel => exact ⟨p + 1, by go_num, by omega, by rw [Hnx.out, ← HL.out]; exact HO6.out, hb6⟩
      case measure => simp [intOf]; omega
    · have hpI : ¬ (p : Int) < (N : Int) := by omega
      have hL : S.rows.take p = S.rows := List.take_of_length_le (by rw [← HN.out]; omega)
      rw [hL] at hown
      have HO := Lib.hid (And.intro hown hB)
      clear hown hB hh hL
      go_wp2_with fail
      go_ret
      exact ⟨_, rfl, HO.out.1, HO.out.2⟩
set_option maxHeartbeats 4000000 in
theorem own_any {wo w : World} {q : Nat} {A : Option Addr} {n c : Nat} {lv ov : Value} {us : List Value} {S : St} (h : RL wo w q A n c lv ov us S) (ok : Ok S) (k : Nat) (hk : k < S.s.cols.length) :
    Calls Try.prog 36 #[pt q, .int .i64 k] w fun e w' => ∃ v, e = .returned v ∧ w'.ownsRow w.heap.size 49 4 v (ow (col S.rows k)).length (Wd.flatV (ow (col S.rows k))) ∧ Below w.heap.size w w' := by
  obtain ⟨C, hC⟩ : ∃ C, C = col S.rows k := ⟨_, rfl⟩
  have Cc := Lib.hid (column_any h ok k hk)
  rw [← hC] at Cc ⊢
  have HC1 := Lib.hid (show ∀ x ∈ C, Wd.V1 x from fun x hx => Sx.v1_of (col_ok ok hk x (by rw [← hC]; exact hx)))
  have hC4 : C.length ≤ 4096 := by rw [hC, col_len]; have := ok.few; have := ok.m1; omega
  obtain ⟨N, hN⟩ : ∃ N, N = C.length := ⟨_, rfl⟩
  rw [← hN] at Cc hC4
  have HN := Lib.hid hN
  clear hC hN h ok hk
  go_enter Try.func36, Try.ntmps36
  go_wp2_with fail
  refine Cc.out.mono ?_
  rintro e w1 ⟨v, rfl, hown, hB1⟩
  obtain ⟨A1, n1, c1, rfl, hV1⟩ := Wd.Vs.of_own hown (v1_mem HC1.out)
  obtain rfl : n1 = N := by rw [hV1.len, HN.out]
  have HV1 := Lib.hid hV1
  have HB1 := Lib.hid hB1
  have hcap := hV1.cap
  clear hown hV1 hB1 Cc
  go_wp2_with fail
  go_loopw [7, 6] (fun i v wr => ∃ p : Nat, i = .int .i64 p ∧ p ≤ n1 ∧ wr.ownsRow w1.heap.size 49 4 v (ow (C.take p)).length (Wd.flatV (ow (C.take p))) ∧ Below w1.heap.size w1 wr) (fun i _ _ => n1 - (intOf i).toNat)
  case atStart => exact ⟨0, rfl, Nat.zero_le _, World.ownsRow_nil _ _ _ _, Below.refl _ _⟩
  case round =>
    obtain ⟨p, rfl, hp, hown, hB⟩ := hrel
    by_cases hlt : p < n1
    · have hpC : p < C.length := by rw [← HN.out]; exact hlt
      obtain ⟨y, hy⟩ : ∃ y, y = C.getD p default := ⟨_, rfl⟩
      obtain ⟨b, o, hA, hb, d0, d1, d2, d3, -⟩ := (HV1.out.below hB).cells (j := p) hpC hy
      subst hA
      have hnx := ow_next hpC
      rw [← hy] at hnx
      obtain ⟨L, hL⟩ : ∃ L, L = ow (C.take p) := ⟨_, rfl⟩
      rw [← hL] at hown hnx
      have HL := Lib.hid hL
      have Hnx := Lib.hid hnx
      have hdk : L.length ≤ 1000000 := by rw [hL]; have := ow_len (C.take p); rw [List.length_take] at this; omega
      have hLV : ∀ j, j < L.length → Wd.V1 (L.getD j default) := v1_mem fun x hx => HC1.out x (by rw [hL] at hx; exact List.mem_of_mem_take (mem_ow.1 hx))
      obtain ⟨A2, n2, c2, rfl, hV2⟩ := Wd.Vs.of_own hown hLV
      have Cf := Lib.hid (Dx.refFind_any A2 n2 c2 L y.kind y.i y.s y.b wr hV2)
      have hpI : (p : Int) < (n1 : Int) := by omega
      obtain ⟨f, hf⟩ : ∃ f, f = Dc.fnd L y := ⟨_, rfl⟩
      have Cf : Hid (Calls Try.prog 37 #[.slice A2 n2 c2, .agg #[.int .i64 y.kind, .int .i64 y.i, .string y.s, .bool y.b]] wr fun e w' => e = .returned (.int .i64 f) ∧ Below wr.heap.size wr w') := Lib.hid (by rw [hf]; exact Cf.out)
      have Hown := Lib.hid hown
      have HB := Lib.hid hB
      by_cases hin : y ∈ L
      · have hf0 : ¬ f < 0 := by rw [hf]; have := Dc.fnd_pos.2 hin; omega
        have hn2 := Lib.hid (show ow (C.take (p + 1)) = L by rw [Hnx.out, put1_old hin])
        clear hf hin hnx hL hy hLV hV2 hown hB
        go_wp2_with fail
        refine Cf.out.mono ?_
        rintro e w3 ⟨rfl, hB3⟩
        have HO3 := Lib.hid (And.intro (Wd.own_below Hown.out hB3) (HB.out.trans (hB3.mono HB.out.size)))
        clear hB3 Cf d0 d1 d2 d3
        go_wp2_with fail
        go_roundw
        case rel => exact ⟨p + 1, by go_num, by omega, by rw [hn2.out]; exact HO3.out.1, HO3.out.2⟩
        case measure => simp [intOf]; omega
      · have hf0 : f < 0 := by rw [hf, Dc.fnd_none hin]; omega
        have hn2 := Lib.hid (show ow (C.take (p + 1)) = L ++ [y] by rw [Hnx.out, put1_new hin])
        clear hf hin hnx hL hy hLV hV2 hown hB
        go_wp2_with fail
        refine Cf.out.mono ?_
        rintro e w3 ⟨rfl, hB3⟩
        have hB13 := HB.out.trans (hB3.mono HB.out.size)
        have hb3 : b < wr.heap.size := hb
        have e0 := (hB3.cell (p := ⟨b, o + p * 4, none⟩) hb3).trans d0
        have e1 := (hB3.cell (p := ⟨b, o + p * 4 + 1, none⟩) hb3).trans d1
        have e2 := (hB3.cell (p := ⟨b, o + p * 4 + 2, none⟩) hb3).trans d2
        have e3 := (hB3.cell (p := ⟨b, o + p * 4 + 3, none⟩) hb3).trans d3
        have hO5 : (w3.alloc (.cells #[.int .i64 y.kind, .int .i64 y.i, .string y.s, .bool y.b] 49)).ownsRow w1.heap.size 49 4 (.slice A2 n2 c2) L.length (Wd.flatV L) := (Wd.own_below Hown.out hB3).alloc _
        have hcv := Wd.vals_new w3 y _ rfl
        have hA5 := hB13.alloc hB13.size (.cells #[.int .i64 y.kind, .int .i64 y.i, .string y.s, .bool y.b] 49)
        have hz5 := hA5.size
        have Pk := Lib.hid (And.intro hO5 hA5)
        clear hB3 hB13 hA5 d0 d1 d2 d3 Cf
        go_wp2_with (at_builtin; refine Wd.wpList_appV1 _ rfl (.tmp 24) (.tmp 29) rfl w1.heap.size _ L rfl hO5 _ y rfl hcv hdk hz5 ?_; intro v6 w6 hO6 hg6)
        have hb6 := Pk.out.2.grown hg6 hz5 fun g hg => (Pk.out.1.lt g hg).1
        have HO6 := Lib.hid hO6
        clear hO6 hg6 Pk
        go_wp2_with fail
        go_roundw
        case rel => exact ⟨p + 1, by go_num, by omega, by rw [hn2.out]; exact HO6.out, hb6⟩
        case measure => simp [intOf]; omega
    · have hpI : ¬ (p : Int) < (n1 : Int) := by omega
      have hL : C.take p = C := List.take_of_length_le (by rw [← HN.out]; omega)
      rw [hL] at hown
      have hs := HB1.out.size
      have HO := Lib.hid (And.intro (Wd.own_down hown hs) (HB1.out.trans (hB.mono hs)))
      clear hown hB hL
      go_wp2_with fail
      go_ret
      exact ⟨_, rfl, HO.out.1, HO.out.2⟩
end Rf
end Go.Proofs.Ytfeolclpgilfdaa
namespace Go.Proofs.Ytfeolclpgilfdaa
set_option maxRecDepth 20000
open Go.RowKit Go.Maps
namespace Rf
open Va (Vl May null)
open Sc (Sch FitS MayS fits fits_get tr tr_yes tr_no tr_iff tr_congr)
open Rw
theorem own_apart {w : World} {B1 B2 : Nat} {e1 e2 : TypeId} {s1 s2 n1 n2 : Nat} {v1 v2 : Value} {xs1 xs2 : List Value} (h1 : w.ownsRow B1 e1 s1 v1 n1 xs1) (h2 : w.ownsRow B2 e2 s2 v2 n2 xs2) (hne : e1 ≠ e2) {x : Nat} (hx : v1.ownBlock = some x) : v2.ownBlock ≠ some x := by
  intro hy
  obtain ⟨_, _, c1, g1⟩ := Wd.own_lt h1 hx
  obtain ⟨_, _, c2, g2⟩ := Wd.own_lt h2 hy
  rw [g1] at g2
  simp only [Option.some.injEq, Obj.cells.injEq] at g2
  exact hne g2.2.1
theorem info_vs : (Try.prog.info? 38).map (fun i => (i.zero, i.size, i.bytes)) = some (some (.slice none 0 0), 1, 24) := by kernel_rfl
/-- append of one row: its run, and where the list lies then. -/
theorem run_appS_at (w : World) (ty : TypeId) (B : Nat) (v : Value) (us : List Value) (hown : w.ownsRow B 38 1 v us.length us) (ad : Addr) (u : Value) (hu : u.oneCell' = true) (hc : w.cell? (ad.add 0) = some u) (hL : us.length ≤ 1000000) (hB : B ≤ w.heap.size) :
    ∃ A c w', (Builtin.append_ #[71, 71] ty #[v, .slice (some ad) 1 1]).run Try.prog w = .ok (.slice A (us.length + 1) c) w' ∧ w'.ownsRow B 38 1 (.slice A (us.length + 1) c) (us.length + 1) (us ++ [u]) ∧ w.grownBy w' v.ownBlock ∧ ((Value.slice A (us.length + 1) c).ownBlock = v.ownBlock ∨ (Value.slice A (us.length + 1) c).ownBlock = some w.heap.size) := by
  obtain ⟨i0, hi, hz0, hz1, hz2⟩ := info_parts info_vs
  obtain ⟨v', w', hrun, h2, h3, _, h5⟩ := run_append_own_at (P := Try.prog) w B 71 ty 38 i0 _ 1 24 Try.underlying71 hi hz0 hz1 hz2 rfl (by decide) v us.length _ hown ad 1 1 [u] rfl (fun j x hx => by
    have hj : j < 1 := by simpa using (List.getElem?_eq_some_iff.1 hx).1
    obtain rfl : j = 0 := by omega
    simp only [List.getElem?_cons_zero, Option.some.injEq] at hx
    rw [← hx]
    exact hc) (by simpa using hu) (by unfold maxLen; omega) (by omega) hB
  obtain ⟨A, c, rfl⟩ := Dt.own_shape h2
  exact ⟨A, c, w', hrun, h2, h3, h5⟩
/-- An append whose run is known, as a step of a region. -/
theorem step_runT {w w' : World} {ops : Array Oper} {o : Oper} {a : Act} {K : Act → World → Prop} {Q : Exit → Act → World → Prop} {E : Prop} (hgd : o.guard = none) {s x : Operand} {v : Value} (t : TypeId)
    (ho : o.op = .call { callee := .builtin .append, args := #[s, x], argTypes := #[t, t] })
    (hrun : (Builtin.append_ #[t, t] o.type #[a.eval s, a.eval x]).run Try.prog w = .ok v w') (h : K (a.put o.dst v) w') : if Region.wanted o (yielded ops a.tmps) = true then Oper.wp Try.prog o a w K Q else E := by
  rw [if_pos (by simp [Region.wanted, hgd])]
  unfold Oper.wp
  simp [execOp, ho, resolve, invoke, builtin, hrun, Result.andThen]
  exact h
/-- A row and an offset have come: the list in four steps of memory. -/
theorem RL.grow {wo w w6 w8 w11 : World} {q : Nat} {A : Option Addr} {n c : Nat} {lv ov : Value} {us : List Value} {S : St} (h : RL wo w q A n c lv ov us S) {row : List Vl} {off : Int} {u lv' ov' : Value}
    (g6 : w.grownBy w6 none) (hu : w6.ownsRow w.heap.size 49 4 u row.length (Wd.flatV row))
    (g8 : (w6.alloc (.cells #[u] 38)).grownBy w8 lv.ownBlock) (hl : w8.ownsRow wo.heap.size 38 1 lv' (us.length + 1) (us ++ [u])) (l8 : lv'.ownBlock = lv.ownBlock ∨ lv'.ownBlock = some (w6.alloc (.cells #[u] 38)).heap.size)
    (g11 : ((w8.setCell ⟨q, 7, none⟩ lv').alloc (.cells #[.int .i64 off] 3)).grownBy w11 ov.ownBlock) (ho : w11.ownsRow wo.heap.size 3 1 ov' (S.offs ++ [off]).length ((S.offs ++ [off]).map (Value.int .i64))) (l11 : ov'.ownBlock = ov.ownBlock ∨ ov'.ownBlock = some ((w8.setCell ⟨q, 7, none⟩ lv').alloc (.cells #[.int .i64 off] 3)).heap.size) :
    RL wo (w11.setCell ⟨q, 8, none⟩ ov') q A n c lv' ov' (us ++ [u]) (more S row off) ∧ Wd.Mv (Ft2 q lv ov us) w (w11.setCell ⟨q, 8, none⟩ ov') ∧ ∀ x, Ft2 q lv' ov' (us ++ [u]) x → Wd.Gr (Ft2 q lv ov us) w (w11.setCell ⟨q, 8, none⟩ ov') x := by
  have hwo := h.bel.size
  have hq := h.box.lt
  have s6 := g6.size
  have s8 := g8.size
  have s11 := g11.size
  simp only [World.size_alloc] at s8 s11
  have s9 : (w8.setCell ⟨q, 7, none⟩ lv').heap.size = w8.heap.size := by simp [World.setCell]
  have s12 : (w11.setCell ⟨q, 8, none⟩ ov').heap.size = w11.heap.size := by simp [World.setCell]
  rw [s9] at s11
  have hlq : lv.ownBlock ≠ some q := fun e => h.box.apart h.rl (by decide) e.symm
  have hoq : ov.ownBlock ≠ some q := fun e => h.box.apart h.off (by decide) e.symm
  have llt : ∀ x, lv.ownBlock = some x → x < w.heap.size := fun x hx => (Wd.own_lt h.rl hx).1
  have olt : ∀ x, ov.ownBlock = some x → x < w.heap.size := fun x hx => (Wd.own_lt h.off hx).1
  have k6 : ∀ x, x < w.heap.size → w6.heap[x]? = w.heap[x]? := fun x hx => g6.block x hx (by simp)
  have k8 : ∀ x, x < w6.heap.size → lv.ownBlock ≠ some x → w8.heap[x]? = w6.heap[x]? := fun x hx hn => (g8.block x (by simp; omega) fun e => hn e.symm).trans (Below.heap_alloc w6 _ x hx)
  have k9 : ∀ x, x ≠ q → (w8.setCell ⟨q, 7, none⟩ lv').heap[x]? = w8.heap[x]? := fun x hx => Below.heap_setCell _ _ _ _ hx
  have k11 : ∀ x, x < w8.heap.size → ov.ownBlock ≠ some x → w11.heap[x]? = (w8.setCell ⟨q, 7, none⟩ lv').heap[x]? := fun x hx hn => (g11.block x (by rw [World.size_alloc, s9]; omega) fun e => hn e.symm).trans (Below.heap_alloc _ _ x (by rw [s9]; exact hx))
  have k12 : ∀ x, x ≠ q → (w11.setCell ⟨q, 8, none⟩ ov').heap[x]? = w11.heap[x]? := fun x hx => Below.heap_setCell _ _ _ _ hx
  have K : ∀ x, x < w6.heap.size → x ≠ q → lv.ownBlock ≠ some x → ov.ownBlock ≠ some x → (w11.setCell ⟨q, 8, none⟩ ov').heap[x]? = w6.heap[x]? := fun x h1 h2 h3 h4 => (k12 x h2).trans ((k11 x (by omega) h4).trans ((k9 x h2).trans (k8 x h1 h3)))
  have K0 : ∀ x, x < w.heap.size → x ≠ q → lv.ownBlock ≠ some x → ov.ownBlock ≠ some x → (w11.setCell ⟨q, 8, none⟩ ov').heap[x]? = w.heap[x]? := fun x h1 h2 h3 h4 => (K x (by omega) h2 h3 h4).trans (k6 x h1)
  have nl : ∀ x, lv'.ownBlock = some x → lv.ownBlock = some x ∨ (w6.heap.size ≤ x ∧ x < w8.heap.size) := fun x hx => by
    rcases l8 with e | e
    · exact .inl (by rw [← e, hx])
    · rw [hx] at e
      have := Option.some.inj e
      rw [World.size_alloc] at this
      exact .inr ⟨by omega, (Wd.own_lt hl hx).1⟩
  have no : ∀ x, ov'.ownBlock = some x → ov.ownBlock = some x ∨ (w8.heap.size ≤ x ∧ x < w11.heap.size) := fun x hx => by
    rcases l11 with e | e
    · exact .inl (by rw [← e, hx])
    · rw [hx] at e
      have := Option.some.inj e
      rw [World.size_alloc, s9] at this
      exact .inr ⟨by omega, (Wd.own_lt ho hx).1⟩
  have hov : ∀ x, ov.ownBlock = some x → lv.ownBlock ≠ some x := fun x hx => own_apart h.off h.rl (by decide) hx
  have hnq : ∀ x, lv'.ownBlock = some x → x ≠ q ∧ ov.ownBlock ≠ some x ∧ x < w8.heap.size := fun x hx => by
    rcases nl x hx with e | ⟨e, e'⟩
    · exact ⟨fun z => hlq (z ▸ e), fun z => hov x z e, by have := llt x e; omega⟩
    · exact ⟨by omega, fun z => by have := olt x z; omega, e'⟩
  have hoq' : ∀ x, ov'.ownBlock = some x → x ≠ q := fun x hx => by
    rcases no x hx with e | ⟨e, _⟩
    · exact fun z => hoq (z ▸ e)
    · omega
  have b8 : Wd.Bx w8 q 73 #[.slice A n c, .int .i64 S.s.key, .int .i64 S.s.cmp, .int .i64 S.s.del, .int .i64 S.s.sort, .int .i64 S.most, .int .i64 S.vals, lv, ov] := h.box.at_ ((k8 q (by omega) hlq).trans (k6 q hq))
  have b9 : Wd.Bx (w8.setCell ⟨q, 7, none⟩ lv') q 73 #[.slice A n c, .int .i64 S.s.key, .int .i64 S.s.cmp, .int .i64 S.s.del, .int .i64 S.s.sort, .int .i64 S.most, .int .i64 S.vals, lv', ov] := b8.set 7 lv'
  have b11 := b9.at_ (k11 q (by omega) hoq)
  have hbel : Below wo.heap.size wo (w11.setCell ⟨q, 8, none⟩ ov') := by
    have c6 := h.bel.grown g6 hwo (by simp)
    have c7 := c6.alloc c6.size (.cells #[u] 38)
    have c8 := c7.grown g8 c7.size (fun g hg => (Wd.own_lt h.rl hg).2.1)
    have c9 := c8.setCell (p := ⟨q, 7, none⟩) h.qn lv'
    have c10 := c9.alloc c9.size (.cells #[.int .i64 off] 3)
    have c11 := c10.grown g11 c10.size (fun g hg => (Wd.own_lt h.off hg).2.1)
    exact c11.setCell (p := ⟨q, 8, none⟩) h.qn ov'
  have hul := h.ul
  refine ⟨⟨b11.set 8 ov', h.sch, h.qn, ?_, ?_, ?_, ?_, hbel⟩, ⟨hbel.os.trans h.bel.os.symm, hbel.tape.trans h.bel.tape.symm, hbel.output.trans h.bel.output.symm, by omega, fun x hx hn => ?_⟩, fun x hx => ?_⟩
  · have e1 : (more S row off).rows.length = us.length + 1 := by simp [more, hul]
    rw [e1]
    exact Wd.own_keep hl fun x hx => by
      obtain ⟨h1, h2, h3⟩ := hnq x hx
      exact (k12 x h1).trans ((k11 x h3 h2).trans (k9 x h1))
  · simp [more, hul]
  · intro j hj
    have hj' : j < S.rows.length + 1 := by simpa [more] using hj
    by_cases e : j < S.rows.length
    · have e1 : (us ++ [u]).getD j undef = us.getD j undef := by simp only [List.getD]; rw [List.getElem?_append_left (by omega)]
      have e2 : (more S row off).rows.getD j [] = S.rows.getD j [] := by simp only [more, List.getD]; rw [List.getElem?_append_left e]
      rw [e1, e2]
      exact Wd.own_keep (h.el j e) fun x hx => K0 x (Wd.own_lt (h.el j e) hx).1 (fun z => h.box.apart (h.el j e) (by decide) (z ▸ hx.symm)) (own_apart (h.el j e) h.rl (by decide) hx) (own_apart (h.el j e) h.off (by decide) hx)
    · obtain rfl : j = S.rows.length := by omega
      have e1 : (us ++ [u]).getD S.rows.length undef = u := by rw [← hul]; simp [List.getD]
      have e2 : (more S row off).rows.getD S.rows.length [] = row := by simp [more, List.getD]
      rw [e1, e2]
      refine Wd.own_down (Wd.own_keep hu fun x hx => ?_) hwo
      have h5 := Wd.own_lt hu hx
      exact K x h5.1 (by omega) (fun z => by have := llt x z; omega) (fun z => by have := olt x z; omega)
  · exact Wd.own_keep ho fun x hx => k12 x (hoq' x hx)
  · exact K0 x hx (fun e => hn (.inl e)) (fun e => hn (.inr (.inl e))) (fun e => hn (.inr (.inr (.inl e))))
  · rw [Wd.Gr]
    rcases hx with hx | hx | hx | ⟨j, hj, hx⟩
    · exact .inl (.inl hx)
    · rcases nl x hx with e | ⟨e, e'⟩
      · exact .inl (.inr (.inl e))
      · exact .inr (by omega)
    · rcases no x hx with e | ⟨e, e'⟩
      · exact .inl (.inr (.inr (.inl e)))
      · exact .inr (by omega)
    · by_cases e : j < us.length
      · have e1 : (us ++ [u]).getD j undef = us.getD j undef := by simp only [List.getD]; rw [List.getElem?_append_left e]
        rw [e1] at hx
        exact .inl (.inr (.inr (.inr ⟨j, e, hx⟩)))
      · have e0 : j = us.length := by simp at hj; omega
        have e1 : (us ++ [u]).getD j undef = u := by rw [e0]; simp [List.getD]
        rw [e1] at hx
        have h5 := Wd.own_lt hu hx
        exact .inr (by omega)
end Rf
end Go.Proofs.Ytfeolclpgilfdaa
