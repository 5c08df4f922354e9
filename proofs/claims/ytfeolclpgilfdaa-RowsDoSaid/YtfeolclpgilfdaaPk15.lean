/- Package rows: room. Package rows: add, a value more in a column. slices.Clone of columns, and of integers. -/
import Derived.Deep.RegionHeld3
import Derived.Test.YtfeolclpgilfdaaPk10
import Derived.Test.YtfeolclpgilfdaaPk14
import Derived.Test.YtfeolclpgilfdaaPk09
namespace Go.Proofs.Ytfeolclpgilfdaa
set_option maxRecDepth 20000
open Go.RowKit
namespace Rw
open Va (Vl May null)
open Sc (Sch FitS fits_get tr tr_yes tr_no tr_iff tr_congr)
theorem okv {v : Vl} (h : Sc.Ok v) : Dx.Okv v := by
  refine ⟨Sx.v1_of h, ?_⟩
  unfold maxLen
  rcases h.1 with q | q | q | q
  · rw [q.2.2.1]; decide
  · rw [q.2.1]; decide
  · have := q.2.2.1; omega
  · rw [q.2.2]; decide
theorem fits_ok {s : Sch} {row : List Vl} (h : FitS s row) {k : Nat} (hk : k < s.cols.length) : Sc.Ok (row.getD k default) := (((fits_get _ _).1 h.2).2 k hk).1
theorem all_succ {p : Nat → Prop} {k : Nat} : (∀ j, j < k + 1 → p j) ↔ (∀ j, j < k → p j) ∧ p k :=
  ⟨fun h => ⟨fun j hj => h j (by omega), h k (by omega)⟩, fun h j hj => by
    by_cases e : j = k
    · rw [e]; exact h.2
    · exact h.1 j (by omega)⟩
/-- Facts on rows in memory, for a walk. -/
theorem Lay.c {w : World} {r g : Nat} {A : Option Addr} {n c : Nat} {s : Sch} {most vals : Int} {q : Nat} {cd : Nat → Cd} {V : Nat → List Vl} {ov : Value} {offs : List Int} (h : Lay w r g A n c s most vals q cd V ov offs) :
    w.cell? ⟨r, 0, none⟩ = some (.slice A n c) ∧ w.cell? ⟨r, 1, none⟩ = some (.int .i64 s.key) ∧ w.cell? ⟨r, 2, none⟩ = some (.int .i64 s.cmp) ∧ w.cell? ⟨r, 3, none⟩ = some (.int .i64 s.del) ∧ w.cell? ⟨r, 4, none⟩ = some (.int .i64 s.sort) ∧
    w.cell? ⟨r, 5, none⟩ = some (.int .i64 most) ∧ w.cell? ⟨r, 6, none⟩ = some (.int .i64 vals) ∧ w.cell? ⟨r, 7, none⟩ = some (.slice (some ⟨g, 0, none⟩) n n) ∧ w.cell? ⟨r, 8, none⟩ = some ov :=
  ⟨(h.box.cell 0).trans rfl, (h.box.cell 1).trans rfl, (h.box.cell 2).trans rfl, (h.box.cell 3).trans rfl, (h.box.cell 4).trans rfl, (h.box.cell 5).trans rfl, (h.box.cell 6).trans rfl, (h.box.cell 7).trans rfl, (h.box.cell 8).trans rfl⟩
set_option maxHeartbeats 1000000 in
theorem room_any {w : World} {r : Nat} {S : St} {F : Nat → Prop} {B : Option Addr} {m d : Nat} {row : List Vl} (h : R w r S F) (ok : Ok S) (hV : Wd.Vs w B m d row) (hf : FitS S.s row) :
    Calls Try.prog 51 #[Dt.pt r, .slice B m d] w fun e w' => e = .returned (.bool (tr (Room S row))) ∧ Below w.heap.size w w' := by
  obtain ⟨g, A, n, c, cd, ov, hn, hl, -⟩ := h
  have hn8 := (cols_len ok).2
  have hrl : row.length = S.s.cols.length := Sc.fits_len hf.2
  have hm : m = n := by rw [hV.len, hrl, hn]
  obtain ⟨T, hT⟩ : ∃ T, T = tr (Room S row) := ⟨_, rfl⟩
  rw [← hT]
  have HT := Lib.hid hT
  obtain ⟨w3, hw3⟩ : ∃ w3, w3 = (((w.alloc (.cells #[.pointer (some ⟨r, 0, none⟩)] 29)).alloc (.cells #[.slice B m d] 38)).alloc (.cells #[.bool true] 4)) := ⟨_, rfl⟩
  have hz : w3.heap.size = w.heap.size + 3 := by rw [hw3]; simp
  have b1 := (Below.refl w.heap.size w).alloc (Nat.le_refl _) (.cells #[.pointer (some ⟨r, 0, none⟩)] 29)
  have b2 := b1.alloc b1.size (.cells #[.slice B m d] 38)
  have hb3 : Below w.heap.size w w3 := by rw [hw3]; exact b2.alloc b2.size (.cells #[.bool true] 4)
  have hq : Wd.Var w3 w.heap.size 29 (.pointer (some ⟨r, 0, none⟩)) := by
    rw [hw3]
    exact ((Wd.Var.new w _ _).alloc _).alloc _
  have hp : Wd.Var w3 (w.heap.size + 1) 38 (.slice B m d) := by
    rw [hw3]
    have := (Wd.Var.new (w.alloc (.cells #[.pointer (some ⟨r, 0, none⟩)] 29)) 38 (.slice B m d)).alloc (.cells #[.bool true] 4)
    rw [World.size_alloc] at this
    exact this
  have ht : Wd.Var w3 (w.heap.size + 1 + 1) 4 (.bool true) := by
    rw [hw3]
    have := (Wd.Var.new ((w.alloc (.cells #[.pointer (some ⟨r, 0, none⟩)] 29)).alloc (.cells #[.slice B m d] 38)) 4 (.bool true))
    rw [World.size_alloc, World.size_alloc] at this
    exact this
  have hInv : ∀ (k : Nat) (wk : World), Wd.Mv (· = w.heap.size + 1 + 1) w3 wk → Below w.heap.size w wk := fun k wk mv => hb3.trans (mv.below (fun g e => by omega) (by omega))
  have hE := each_any 62 #[.pointer (some ⟨w.heap.size + 1, 0, none⟩), .pointer (some ⟨w.heap.size + 1 + 1, 0, none⟩), .pointer (some ⟨w.heap.size, 0, none⟩)] r g n
    (fun k wk => Wd.Mv (· = w.heap.size + 1 + 1) w3 wk ∧ Wd.Var wk (w.heap.size + 1 + 1) 4 (.bool (tr (∀ j, j < k → Room1 S row j)))) w3 (by omega) goes_room
    (fun k wk hI => (hl.below (hInv k wk hI.1)).c.2.2.2.2.2.2.2.1)
    (fun k wk hk hI => by
      have hbk := hInv k wk hI.1
      have hs := hbk.size
      have hlk := hl.below hbk
      obtain ⟨edp, hD⟩ := hlk.dic k hk hk
      have hks : k < S.s.cols.length := by omega
      obtain ⟨b, o, hB, hblt, c0, c1, c2, c3, -⟩ := (hV.below hbk).cells (j := k) (by omega) rfl
      have hblt' : b < w.heap.size := by
        obtain ⟨b', o', e, hlt, -⟩ := hV.at_ k (by omega)
        rw [hB] at e
        cases e
        exact hlt
      have mq : Wd.Var wk w.heap.size 29 (.pointer (some ⟨r, 0, none⟩)) := (hI.1.keep _ (by omega) (by omega)).trans hq
      have mp : Wd.Var wk (w.heap.size + 1) 38 (.slice B m d) := (hI.1.keep _ (by omega) (by omega)).trans hp
      rw [hB] at mp
      have hcd := (hlk.row.cell (k * 2)).trans (cc_dp cd hk)
      rw [edp] at hcd
      refine (room1_any k g (w.heap.size + 1) (w.heap.size + 1 + 1) w.heap.size r b o m d (row.getD k default) _ _ _ _ _ _ _ wk hD (dis_col ok hks) (fun y hy => okv (ow_ok ok hks y hy)) (okv (fits_ok hf hks)) (by omega) hcd mp.cell c0 c1 c2 c3 hI.2 mq.cell hlk.c.2.2.2.2.2.2.1 ⟨hlk.row.lt, mp.lt, by omega, mq.lt, hlk.box.lt⟩).mono ?_
      rintro e w' ⟨rfl, hv, mv⟩
      refine ⟨rfl, hI.1.then mv, ?_⟩
      have : (tr (∀ j, j < k → Room1 S row j) && decide (row.getD k default ∈ ow (col S.rows k) ∨ ((ow (col S.rows k)).length : Int) < S.vals)) = tr (∀ j, j < k + 1 → Room1 S row j) := by
        rw [Bool.eq_iff_iff, Bool.and_eq_true, tr_iff, tr_iff, decide_eq_true_iff, all_succ]
        rfl
      rw [this] at hv
      exact hv)
    ⟨Wd.Mv.refl _ _, by rw [tr_yes (fun j hj => by omega)]; exact ht⟩
  have HE := Lib.hid hE
  have Hend := Lib.hid fun wk => hInv n wk
  have HT2 := Lib.hid (show tr (∀ j, j < n → Room1 S row j) = T by rw [hT]; exact tr_congr (by unfold Room; rw [hn]))
  have hv3 := Lib.hid hw3
  have hx : w3 = (((w.alloc (.cells #[.pointer (some ⟨r, 0, none⟩)] 29)).alloc (.cells #[.slice B m d] 38)).alloc (.cells #[.bool true] 4)) := hw3
  clear hE hT hInv hb3 b1 b2 hq hp ht hl hV hf ok hw3 hv3 hz hn8 hrl hm hn
  go_enter Try.func51, Try.ntmps51
  go_wp2_with fail
  rw [← hx]
  refine HE.out.mono ?_
  rintro e w4 ⟨rfl, mv4, v4⟩
  rw [HT2.out] at v4
  have v0 := v4.cell
  have hb4 := Lib.hid (Hend.out w4 mv4)
  clear mv4 v4 hx
  go_wp2_with fail
  go_ret
  exact ⟨rfl, hb4.out⟩
end Rw
end Go.Proofs.Ytfeolclpgilfdaa
namespace Go.Proofs.Ytfeolclpgilfdaa
set_option maxRecDepth 20000
open Go.RowKit Go.Maps
namespace Rw
open Va (Vl May null)
open Sc (Sch FitS fits_get tr tr_yes tr_no tr_iff tr_congr)
open Dx (Okv)
open Dc (Dis lim fnd)
theorem info_i : (Try.prog.info? 3).map (fun i => (i.zero, i.size, i.bytes)) = some (some (.int .i64 0), 1, 8) := by kernel_rfl
theorem mv_cell {G : Nat → Prop} {w w' : World} {a : Addr} {v : Value} (mv : Wd.Mv G w w') (h : w.cell? a = some v) (hn : ¬ G a.block) : w'.cell? a = some v := by
  have hb := mv.keep a.block (World.block_lt_of_cell? w a h) hn
  simp only [World.cell?, hb] at h ⊢
  exact h
theorem mv_var {G : Nat → Prop} {w w' : World} {p : Nat} {t : TypeId} {v : Value} (mv : Wd.Mv G w w') (h : Wd.Var w p t v) (hn : ¬ G p) : Wd.Var w' p t v := (mv.keep p h.lt hn).trans h
/-- append of one integer: its run, and where the row lies then. -/
theorem run_appI_at (w : World) (ty : TypeId) (B : Nat) (v : Value) (xs : List Int) (hown : w.ownsRow B 3 1 v xs.length (xs.map (Value.int .i64))) (ad : Addr) (o : Int) (hc : w.cell? (ad.add 0) = some (.int .i64 o)) (hL : xs.length ≤ 1000000) (hB : B ≤ w.heap.size) :
    ∃ A c w', (Builtin.append_ #[51, 51] ty #[v, .slice (some ad) 1 1]).run Try.prog w = .ok (.slice A (xs.length + 1) c) w' ∧ w'.ownsRow B 3 1 (.slice A (xs.length + 1) c) (xs ++ [o]).length ((xs ++ [o]).map (Value.int .i64)) ∧ w.grownBy w' v.ownBlock ∧ ((Value.slice A (xs.length + 1) c).ownBlock = v.ownBlock ∨ (Value.slice A (xs.length + 1) c).ownBlock = some w.heap.size) := by
  obtain ⟨i0, hi, hz0, hz1, hz2⟩ := info_parts info_i
  obtain ⟨v', w', hrun, h2, h3, _, h5⟩ := run_append_own_at (P := Try.prog) w B 51 ty 3 i0 _ 1 8 Try.underlying51 hi hz0 hz1 hz2 rfl (by decide) v xs.length _ hown ad 1 1 [.int .i64 o] rfl (fun j u hu => by
    have hj : j < 1 := by simpa using (List.getElem?_eq_some_iff.1 hu).1
    obtain rfl : j = 0 := by omega
    simp only [List.getElem?_cons_zero, Option.some.injEq] at hu
    rw [← hu]
    exact hc) (by simp [Value.oneCell']) (by unfold maxLen; omega) (by omega) hB
  obtain ⟨A, c, rfl⟩ := Dt.own_shape h2
  exact ⟨A, c, w', hrun, by rw [List.length_append, List.map_append]; exact h2, h3, h5⟩
/-- An append of integers whose run is known, in a list of operations. -/
theorem wpList_run {w w' : World} {ops : Array Oper} {rest : List Oper} {o : Oper} {a : Act} {Q : Exit → Act → World → Prop} (hgd : o.guard = none) (s x : Operand) {v : Value}
    (ho : o.op = .call { callee := .builtin .append, args := #[s, x], argTypes := #[51, 51] })
    (hrun : (Builtin.append_ #[51, 51] o.type #[a.eval s, a.eval x]).run Try.prog w = .ok v w') (h : wpList Try.prog ops Q rest (a.put o.dst v) w') : wpList Try.prog ops Q (o :: rest) a w := by
  refine wpList_plain hgd fun K hK => ?_
  unfold Oper.wp
  simp [execOp, ho, resolve, invoke, builtin, hrun, Result.andThen]
  exact hK _ _ h
theorem and5' {w w' : World} {G : Nat → Prop} {a b : Nat} {o : Nat} {x0 y0 y1 y2 y3 : Value} (h : w.cell? ⟨a, o, none⟩ = some x0 ∧ w.cell? ⟨b, 0, none⟩ = some y0 ∧ w.cell? ⟨b, 1, none⟩ = some y1 ∧ w.cell? ⟨b, 2, none⟩ = some y2 ∧ w.cell? ⟨b, 3, none⟩ = some y3)
    (mv : Wd.Mv G w w') (ha : ¬ G a) (hb : ¬ G b) : w'.cell? ⟨a, o, none⟩ = some x0 ∧ w'.cell? ⟨b, 0, none⟩ = some y0 ∧ w'.cell? ⟨b, 1, none⟩ = some y1 ∧ w'.cell? ⟨b, 2, none⟩ = some y2 ∧ w'.cell? ⟨b, 3, none⟩ = some y3 :=
  ⟨mv_cell mv h.1 ha, mv_cell mv h.2.1 hb, mv_cell mv h.2.2.1 hb, mv_cell mv h.2.2.2.1 hb, mv_cell mv h.2.2.2.2 hb⟩
set_option maxHeartbeats 4000000 in
theorem add_any {w : World} {r g : Nat} {A : Option Addr} {n c : Nat} {s : Sch} {most vals : Int} {cd : Nat → Cd} {V : Nat → List Vl} {ov : Value} {offs : List Int} (hl : Lay w r g A n c s most vals n cd V ov offs) {k : Nat} (hk : k < n) (x : Vl) (hx : Sc.Ok x)
    (hd : Dis (ow (V k)) vals) (ho : ∀ y ∈ ow (V k), Okv y) (hr : x ∈ ow (V k) ∨ ((ow (V k)).length : Int) < lim vals) (hlen : (V k).length ≤ 5000) :
    Calls Try.prog 34 #[.pointer (some ⟨g, k * 2, none⟩), .agg #[.int .i64 x.kind, .int .i64 x.i, .string x.s, .bool x.b]] w fun e w' => e = .returned (.tuple #[]) ∧ Wd.Mv (Foot r g n cd ov) w w' ∧ ∃ e', Lay w' r g A n c s most vals n (upd cd k e') (upd V k (V k ++ [x])) ov offs ∧ ∀ y, Foot r g n (upd cd k e') ov y → Wd.Gr (Foot r g n cd ov) w w' y := by
  obtain ⟨edp, hD⟩ := hl.dic k hk hk
  have hb0 := (Below.refl w.heap.size w).alloc (Nat.le_refl _) (.cells #[.int .i64 x.kind, .int .i64 x.i, .string x.s, .bool x.b] 49)
  have x0 : Vc.Vb (w.alloc (.cells #[.int .i64 x.kind, .int .i64 x.i, .string x.s, .bool x.b] 49)) w.heap.size x.kind x.i x.s x.b := Wd.Bx.new w _ _
  have hcd := (hl.row.cell (k * 2)).trans (cc_dp cd hk)
  rw [edp] at hcd
  have hadd := add_room hx.1 hr
  have Ca := Lib.hid fun w' (hb' : Below w.heap.size w w') => by
    have := Dt.add_any x (hD.below hb') hd ho (okv hx)
    rw [hadd] at this
    exact this
  have HL := Lib.hid hl
  have Hlen := Lib.hid hlen
  obtain ⟨N, hN⟩ : ∃ N, N = fnd (put1 (ow (V k)) x) x := ⟨_, rfl⟩
  simp only [← hN] at Ca
  have HN := Lib.hid hN
  have hGg : ¬ (cd k).G g := fun q => (hl.a0 k hk g q).2.2.1 rfl
  have hGx : ¬ (cd k).G w.heap.size := fun q => by have := (hl.a0 k hk _ q).1; omega
  have Hdp := Lib.hid edp
  clear hN hl hlen hD hadd hd ho hr hx edp
  go_enter Try.func34, Try.ntmps34
  go_wp2_with fail
  have hglt : g < w.heap.size := HL.out.row.lt
  have z9 : (w.alloc (.cells #[.int .i64 x.kind, .int .i64 x.i, .string x.s, .bool x.b] 49)).drew.cell? ⟨g, k * 2, none⟩ = some (Dt.pt (cd k).d) := (hb0.cell (p := ⟨g, k * 2, none⟩) hglt).trans hcd
  obtain ⟨⟨y0, y1, y2, y3⟩, -⟩ := Vc.four x0
  have z10 : (w.alloc (.cells #[.int .i64 x.kind, .int .i64 x.i, .string x.s, .bool x.b] 49)).drew.cell? ⟨g, k * 2, none⟩ = some (Dt.pt (cd k).d) ∧ (w.alloc (.cells #[.int .i64 x.kind, .int .i64 x.i, .string x.s, .bool x.b] 49)).drew.cell? ⟨w.heap.size, 0, none⟩ = some (.int .i64 x.kind) ∧ (w.alloc (.cells #[.int .i64 x.kind, .int .i64 x.i, .string x.s, .bool x.b] 49)).drew.cell? ⟨w.heap.size, 1, none⟩ = some (.int .i64 x.i) ∧ (w.alloc (.cells #[.int .i64 x.kind, .int .i64 x.i, .string x.s, .bool x.b] 49)).drew.cell? ⟨w.heap.size, 2, none⟩ = some (.string x.s) ∧ (w.alloc (.cells #[.int .i64 x.kind, .int .i64 x.i, .string x.s, .bool x.b] 49)).drew.cell? ⟨w.heap.size, 3, none⟩ = some (.bool x.b) := ⟨z9, y0, y1, y2, y3⟩
  have hb := hb0.drew
  clear z9 y0 y1 y2 y3 hcd x0
  go_region_held3 (fun w' => w'.cell? ⟨g, k * 2, none⟩ = some (Dt.pt (cd k).d) ∧ w'.cell? ⟨w.heap.size, 0, none⟩ = some (.int .i64 x.kind) ∧ w'.cell? ⟨w.heap.size, 1, none⟩ = some (.int .i64 x.i) ∧ w'.cell? ⟨w.heap.size, 2, none⟩ = some (.string x.s) ∧ w'.cell? ⟨w.heap.size, 3, none⟩ = some (.bool x.b)) (with_reducible first | exact z10) (first
    | (go_at_call 52; (with_reducible refine (Ca.out _ hb).mono ?_); rintro e w1 ⟨rfl, mv1, G', hD1, hG1⟩; have z10 := and5' z10 mv1 hGg hGx))
  obtain ⟨m', v', hD1⟩ := hD1
  have hgz := HL.out.row
  have hwa := hb0.size
  have b1 : Wd.Bx w1 g 69 (cc cd n).toArray := (mv1.keep g (by simp; omega) hGg).trans ((hb0.block g hglt).trans hgz)
  have n1 : w1.ownsRow 0 3 1 (cd k).nv (V k).length ((nm (V k)).map (Value.int .i64)) := Wd.own_keep (HL.out.num k hk) fun y hy => by
    have hlt := (Wd.own_lt (HL.out.num k hk) hy).1
    exact (mv1.keep y (by simp; omega) (fun q => (HL.out.a0 k hk y q).2.2.2.2 hy)).trans (hb0.block y hlt)
  have c1 : w1.cell? ⟨g, k * 2 + 1, none⟩ = some (cd k).nv := (b1.cell (k * 2 + 1)).trans (cc_nv cd hk)
  have hs1 : w.heap.size + 1 ≤ w1.heap.size := by have := mv1.size; simpa using this
  obtain ⟨A2, c2, w3, hrun, hown, hgr, hloc⟩ := run_appI_at (w1.alloc (.cells #[.int .i64 N] 3)) 51 0 (cd k).nv (nm (V k)) (by rw [nm_len]; exact n1.alloc _) ⟨w1.heap.size, 0, none⟩ N (by rw [Addr.add_lit]; exact (Wd.Bx.new w1 3 #[.int .i64 N]).cell 0) (by rw [nm_len]; have := Hlen.out; omega) (Nat.zero_le _)
  obtain ⟨M, hv3⟩ : ∃ M, M = (nm (V k)).length + 1 := ⟨_, rfl⟩
  rw [← hv3] at hrun hown hloc
  have b3 : Wd.Bx w3 g 69 (cc cd n).toArray := (b1.alloc (.cells #[.int .i64 N] 3)).grown hgr (fun e => HL.out.nvg hk e.symm)
  have f3 := b3.free (k * 2 + 1)
  have c3 := (b3.cell (k * 2 + 1)).trans (cc_nv cd hk)
  have Pk := Lib.hid (And.intro hv3 (And.intro hown (And.intro hgr (And.intro hloc (And.intro b3 (And.intro b1 (And.intro n1 (And.intro mv1 (And.intro hD1 hG1)))))))))
  clear hv3 hown hgr hloc b3 b1 n1 mv1 hD1 hG1 z10 hgz hb0 hb
  go_wp2_with (at_builtin; refine wpList_run rfl _ _ rfl hrun ?_)
  go_end0
  obtain ⟨hM, hown, hgr, hloc, b3, b1, n1, mv1, hD1, hG1⟩ := Pk.out
  have hl := HL.out
  have hlt : ∀ y, (cd k).nv.ownBlock = some y → y < w.heap.size := fun y hy => (Wd.own_lt (hl.num k hk) hy).1
  have hg3 := hgr.size
  simp only [World.size_alloc] at hg3
  have hnew : ∀ y, (Value.slice A2 M c2).ownBlock = some y → (cd k).nv.ownBlock = some y ∨ y = w1.heap.size + 1 := by
    intro y hy
    rcases hloc with q | q
    · exact .inl (by rw [← q, hy])
    · rw [hy] at q
      exact .inr (by have := Option.some.inj q; simpa using this)
  have hGi : ∀ y, G' y → ((cd k).G y ∨ w.heap.size + 1 ≤ y) ∧ y < w1.heap.size := fun y hy => by
    refine ⟨?_, hD1.bd y hy⟩
    rcases hG1 y hy with q | q
    · exact .inl q
    · exact .inr (by have := q.1; simpa using this)
  have hGn : ∀ y, G' y → (cd k).nv.ownBlock ≠ some y := fun y hy e => by
    rcases (hGi y hy).1 with q | q
    · exact (hl.a0 k hk y q).2.2.2.2 e
    · have := hlt y e
      omega
  have hGg' : ¬ G' g := fun q => by
    rcases (hGi g q).1 with q' | q'
    · exact hGg q'
    · omega
  have hgv3 : (Value.slice A2 M c2).ownBlock ≠ some g := fun q => by
    rcases hnew g q with q' | q'
    · exact hl.nvg hk q'
    · omega
  have k2 : ∀ y, y < w1.heap.size → (cd k).nv.ownBlock ≠ some y → y ≠ g → (w3.setCell ⟨g, k * 2 + 1, none⟩ (.slice A2 M c2)).heap[y]? = w1.heap[y]? := fun y h1 h2 h3 =>
    (Below.heap_setCell _ _ _ _ h3).trans ((hgr.block y (by simp; omega) (fun e => h2 e.symm)).trans (Below.heap_alloc w1 _ y h1))
  have hs4 : (w3.setCell ⟨g, k * 2 + 1, none⟩ (.slice A2 M c2)).heap.size = w3.heap.size := by simp [World.setCell]
  have mvA : Wd.Mv (fun y => y = g ∨ Ft (cd k) y) w w1 := ((Wd.Mv.of_below (((Below.refl w.heap.size w).alloc (Nat.le_refl _) _).drew)).then mv1).mono fun y hy => .inr (.inl hy)
  have mvB : Wd.Mv (fun y => y = g ∨ Ft (cd k) y) w (w3.setCell ⟨g, k * 2 + 1, none⟩ (.slice A2 M c2)) :=
    ((mvA.alloc _).then (Wd.Mv.of_grown hgr (fun y hy => .inr (.inr hy)))).set (.inl rfl) _
  have hturn := hl.turn hk (e := ⟨Dt.pt (cd k).d, .slice A2 M c2, (cd k).d, m', v', G'⟩) (l := V k ++ [x]) n mvB
    (by
      rw [← cc_set_nv cd ⟨Dt.pt (cd k).d, .slice A2 M c2, (cd k).d, m', v', G'⟩ Hdp.out.symm hk]
      exact b3.set (k * 2 + 1) _)
    rfl
    (by
      rw [ow_snoc]
      exact hD1.at_ (by omega) fun y hy => k2 y (hGi y hy).2 (hGn y hy) fun e => hGg' (e ▸ hy))
    (by
      rw [nm_snoc, ← HN.out]
      have hle : (V k ++ [x]).length = (nm (V k) ++ [N]).length := by simp [nm_len]
      rw [hle]
      exact Wd.own_keep hown fun y hy => Below.heap_setCell _ _ _ _ (fun e => hgv3 (by rw [show y = g from e] at hy; exact hy)))
    (fun y hy => by
      rcases (hGi y hy).1 with q | q
      · exact .inl q
      · exact .inr (by omega))
    (fun y hy => by
      rcases hnew y hy with q | q
      · exact .inl q
      · exact .inr (by omega))
    (fun y hy e => by
      rcases hnew y e with q | q
      · exact hGn y hy q
      · have := (hGi y hy).2
        omega)
    (fun j _ _ => Iff.rfl) hk
  exact ⟨rfl, mvB.mono (fun y hy => by
    rcases hy with q | q
    · exact .inr (.inl q)
    · exact .inr (.inr (.inr ⟨k, hk, q⟩))), _, hturn.1, hturn.2⟩
end Rw
end Go.Proofs.Ytfeolclpgilfdaa
namespace Go.Proofs.Ytfeolclpgilfdaa
set_option maxRecDepth 20000
open Go.RowKit Go.Maps
namespace Wd
open Sc (Col Sch)
def flatC (L : List Col) : List Value := L.flatMap colVals
theorem flatC_len : ∀ L : List Col, (flatC L).length = L.length * 3
  | [] => rfl
  | f :: r => by show (colVals f ++ flatC r).length = _; rw [List.length_append, flatC_len r, List.length_cons]; simp [colVals]; omega
theorem flatC_get : ∀ (L : List Col) (j : Nat), j < L.length → ∀ i v, (colVals (L.getD j default))[i]? = some v → (flatC L)[j * 3 + i]? = some v
  | [], _, h, _, _, _ => by simp at h
  | f :: r, 0, _, i, v, hv => by
    show (colVals f ++ flatC r)[0 * 3 + i]? = some v
    have hi : i < (colVals f).length := (List.getElem?_eq_some_iff.1 (by simpa using hv)).1
    rw [Nat.zero_mul, Nat.zero_add, List.getElem?_append_left hi]
    simpa using hv
  | f :: r, j + 1, h, i, v, hv => by
    have := flatC_get r j (by simpa using h) i v (by simpa using hv)
    show (colVals f ++ flatC r)[(j + 1) * 3 + i]? = some v
    rw [List.getElem?_append_right (by simp [colVals]; omega)]
    rw [show (j + 1) * 3 + i - (colVals f).length = j * 3 + i by simp [colVals]; omega]
    exact this
theorem flatC_cell {M : List Col} {j : Nat} {u : Value} (h : (flatC M)[j]? = some u) : j / 3 < M.length ∧ (colVals (M.getD (j / 3) default))[j % 3]? = some u := by
  have hj : j < M.length * 3 := by have := (List.getElem?_eq_some_iff.1 h).1; rw [flatC_len] at this; exact this
  have hk : j / 3 < M.length := by omega
  have hi : j % 3 < (colVals (M.getD (j / 3) default)).length := by simp [colVals]; omega
  have hv : (colVals (M.getD (j / 3) default))[j % 3]? = some ((colVals (M.getD (j / 3) default))[j % 3]) := List.getElem?_eq_getElem hi
  have := flatC_get M (j / 3) hk (j % 3) _ hv
  rw [show j / 3 * 3 + j % 3 = j by omega, h] at this
  exact ⟨hk, by rw [hv]; exact this.symm⟩
theorem flatC_one (M : List Col) : ∀ u ∈ flatC M, u.oneCell' = true := fun u hu => by
  obtain ⟨o, _, h⟩ := List.mem_flatMap.1 hu
  simp only [colVals, List.mem_cons, List.not_mem_nil, or_false] at h
  rcases h with rfl | rfl | rfl <;> rfl
/-- A row of the call's own that holds columns, as a slice of such. -/
theorem Cs.of_own {w : World} {base : Nat} {e : TypeId} {v : Value} {n : Nat} {L : List Col} (h : w.ownsRow base e 3 v n (flatC L)) (h1 : ∀ j, j < L.length → Col1 (L.getD j default)) : ∃ A n c, v = .slice A n c ∧ Cs w A n c L := by
  have hl : n = L.length := by have := h.1; rw [flatC_len] at this; omega
  subst hl
  rcases h.2 with ⟨rfl, h0⟩ | ⟨g, cap, cur, rfl, hb, hg, h2, h3, h4, h5⟩
  · have : L = [] := List.eq_nil_of_length_eq_zero h0
    subst this
    exact ⟨none, 0, 0, rfl, Cs.none_ _⟩
  · refine ⟨_, _, _, rfl, ⟨rfl, h2, h3, by simp, fun j hj => ⟨g, 0, rfl, (Array.getElem?_eq_some_iff.1 hg).1, fun i u hu => ?_, h1 j hj⟩⟩⟩
    rw [Nat.zero_add]
    have hi : i < 3 := by have := (List.getElem?_eq_some_iff.1 hu).1; simpa [colVals] using this
    exact (h.cellAt (j * 3 + i) (by omega)).trans (flatC_get L j hj i u hu)
theorem info_col : (Try.prog.info? 57).map (fun i => (i.zero, i.size, i.bytes)) = some (some (.agg #[.string ⟨#[]⟩, .int .i64 0, .bool false]), 3, 32) := by kernel_rfl
theorem wpList_appCs (w : World) {ops : Array Oper} {rest : List Oper} {o : Oper} {a : Act} {Q : Exit → Act → World → Prop} (hgd : o.guard = none) (s x : Operand)
    (ho : o.op = .call { callee := .builtin .append, args := #[s, x], argTypes := #[22, 22] })
    (B : Nat) (v : Value) (hs : a.eval s = v) (hown : w.ownsRow B 57 3 v 0 []) (ad : Addr) (m c : Nat) (M : List Col) (hx : a.eval x = .slice (some ad) m c) (hV : Cs w (some ad) m c M) (hL : M.length ≤ 1000000) (hB : B ≤ w.heap.size)
    (h : ∀ v' w', w'.ownsRow B 57 3 v' M.length (flatC M) → w.grownBy w' v.ownBlock → wpList Try.prog ops Q rest (a.put o.dst v') w') : wpList Try.prog ops Q (o :: rest) a w := by
  refine wpList_plain hgd fun K hK => ?_
  obtain ⟨i0, hi, hz0, hz1, hz2⟩ := info_parts info_col
  have hm := hV.len
  have hcells : ∀ j u, (flatC M)[j]? = some u → w.cell? (ad.add j) = some u := by
    intro j u hu
    obtain ⟨hk, hv⟩ := flatC_cell hu
    obtain ⟨b, o, e1, _, hc, _⟩ := hV.at_ (j / 3) hk
    cases e1
    have := hc _ _ hv
    rw [show o + (j / 3 * 3 + j % 3) = o + j by omega] at this
    rw [Addr.add_lit]
    exact this
  obtain ⟨v', w', hrun, h2, h3, _, _⟩ := run_append_own_at (P := Try.prog) w B 22 o.type 57 i0 _ 3 32 Try.underlying22 hi hz0 hz1 hz2 rfl (by decide) v 0 _ hown ad m c (flatC M) (by rw [flatC_len, hm]) hcells (flatC_one M) (by unfold maxLen; omega) (by omega) hB
  unfold Oper.wp
  simp [execOp, ho, resolve, invoke, builtin, hs, hx, hrun, Result.andThen]
  exact hK _ _ (h v' w' (by rw [← hm]; simpa using h2) h3)
end Wd
namespace Rw
open Sc (Col Sch)
theorem cloneC_any (R : Option Addr) (m c : Nat) (L : List Col) (w : World) (hV : Wd.Cs w R m c L) (hL : L.length ≤ 4096) (h0 : 0 < L.length) :
    Calls Try.prog 27 #[.slice R m c] w fun e w' => ∃ v, e = .returned v ∧ w'.ownsRow w.heap.size 57 3 v L.length (Wd.flatC L) ∧ Below w.heap.size w w' := by
  obtain ⟨b, o, rfl, -⟩ := hV.at_ 0 h0
  have hnil : ∀ (w : World) (n c : Nat) , (binOp .eql 22 (.slice (some ⟨b, o, none⟩) n c) (.slice none 0 0)).run Try.prog w = .ok (.bool false) w := fun _ _ _ => by kernel_rfl
  have hb := (Below.refl w.heap.size w).alloc (Nat.le_refl _) (.cells #[] 57)
  have HV := Lib.hid (hV.below hb)
  have ho := World.ownsRow_lit (e := 57) (size := 3) (base := w.heap.size) w #[] 0 (Nat.le_refl _) (by simp [maxLen]) rfl
  clear hV
  go_enter Try.func27, Try.ntmps27
  go_wp2_with (at_builtin; refine Wd.wpList_appCs _ rfl (.tmp 5) (.tmp 6) rfl w.heap.size (.slice (some ⟨w.heap.size, 0, none⟩) 0 0) rfl ho ⟨b, o, none⟩ m c L rfl HV.out (by omega) (by simp) ?_; intro v' w1 hown hg)
  go_ret
  exact ⟨v', rfl, hown, hb.grown hg (by simp) (by simp [Value.ownBlock])⟩
theorem cloneI_any (R : Option Addr) (m c : Nat) (L : List Int) (w : World) (hV : Wd.Sl w .i64 R m c L) (hL : L.length ≤ 5000) :
    Calls Try.prog 43 #[.slice R m c] w fun e w' => ∃ v, e = .returned v ∧ w'.ownsRow w.heap.size 3 1 v L.length (L.map (Value.int .i64)) ∧ Below w.heap.size w w' := by
  rcases R with _ | ad
  · have hc := hV.nil rfl
    have hm : m = 0 := by have := hV.cap; omega
    have hl : L = [] := List.eq_nil_of_length_eq_zero (by rw [← hV.len]; exact hm)
    subst hc hm hl
    have hnil : ∀ (w : World) (n c : Nat), (binOp .eql 51 (.slice none n c) (.slice none 0 0)).run Try.prog w = .ok (.bool true) w := fun _ _ _ => by kernel_rfl
    clear hV
    go_enter Try.func43, Try.ntmps43
    go_wp2
    go_ret
    exact ⟨_, rfl, World.ownsRow_nil _ _ _ _, Below.refl _ _⟩
  · obtain ⟨i0, hi, hz0, hz1, hz2⟩ := info_parts info_i
    have hnil : ∀ (w : World) (n c : Nat) , (binOp .eql 51 (.slice (some ad) n c) (.slice none 0 0)).run Try.prog w = .ok (.bool false) w := fun _ _ _ => by kernel_rfl
    have hb := (Below.refl w.heap.size w).alloc (Nat.le_refl _) (.cells #[] 3)
    have HV := Lib.hid (hV.below hb)
    have ho := World.ownsRow_lit (e := 3) (size := 1) (base := w.heap.size) w #[] 0 (Nat.le_refl _) (by simp [maxLen]) rfl
    have Hm := Lib.hid hV.len
    clear hV
    go_enter Try.func43, Try.ntmps43
    go_wp2_with (at_builtin; refine Wd.wpList_app _ rfl (.tmp 5) (.tmp 6) 51 rfl w.heap.size 3 i0 _ .i64 8 Try.underlying51 hi hz0 hz1 hz2 rfl (.slice (some ⟨w.heap.size, 0, none⟩) 0 0) [] rfl ho _ (some ad) m c L rfl Hm.out HV.out.nil HV.out.rd (by simp; omega) (by unfold maxLen; simp; omega) (by simp) ?_; intro v' w1 hown hg)
    go_ret
    exact ⟨v', rfl, by simpa using hown, hb.grown hg (by simp) (by simp [Value.ownBlock])⟩
end Rw
end Go.Proofs.Ytfeolclpgilfdaa
