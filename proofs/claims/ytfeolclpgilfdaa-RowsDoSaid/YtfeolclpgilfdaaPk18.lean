/- Package rows: Append. Package rows: Append. Package rows: New. -/
import Derived.Test.YtfeolclpgilfdaaPk15
import Derived.Test.YtfeolclpgilfdaaPk17
import Derived.Test.YtfeolclpgilfdaaPk10
namespace Go.Proofs.Ytfeolclpgilfdaa
set_option maxRecDepth 20000
open Go.RowKit Go.Maps
namespace Rw
open Va (Vl May null)
open Sc (Sch FitS fits_get tr tr_yes tr_no tr_iff tr_congr)
open Dx (Okv)
open Dc (Dis lim fnd)
section
variable {w w' : World} {r g : Nat} {A : Option Addr} {n c : Nat} {s : Sch} {most vals : Int} {q : Nat} {cd : Nat → Cd} {V : Nat → List Vl} {ov : Value} {offs : List Int}
theorem Lay.congr {V' : Nat → List Vl} (h : Lay w r g A n c s most vals q cd V ov offs) (e : ∀ k, k < n → V k = V' k) : Lay w r g A n c s most vals q cd V' ov offs :=
  ⟨h.box, h.sch, h.row, h.own, fun k hk hq => by rw [← e k hk]; exact h.dic k hk hq, fun k hk => by rw [← e k hk]; exact h.num k hk, h.no, h.a0, h.a1, h.a2, h.a3⟩
/-- The offsets turn, and nothing else. -/
theorem Lay.turnO (h : Lay w r g A n c s most vals q cd V ov offs) (hn : 0 < n) {ov' : Value} {offs' : List Int}
    (mv : Wd.Mv (fun x => x = r ∨ ov.ownBlock = some x) w w') (box' : Wd.Bx w' r 63 #[.slice A n c, .int .i64 s.key, .int .i64 s.cmp, .int .i64 s.del, .int .i64 s.sort, .int .i64 most, .int .i64 vals, .slice (some ⟨g, 0, none⟩) n n, ov'])
    (own' : w'.ownsRow 0 3 1 ov' offs'.length (offs'.map (Value.int .i64))) (hN : ∀ x, ov'.ownBlock = some x → ov.ownBlock = some x ∨ w.heap.size ≤ x) :
    Lay w' r g A n c s most vals q cd V ov' offs' ∧ ∀ x, Foot r g n cd ov' x → Wd.Gr (Foot r g n cd ov) w w' x := by
  have hbl : ∀ b o, A = some ⟨b, o, none⟩ → b < w.heap.size := fun b o hA => by
    have hl := h.sch.len
    obtain ⟨b', o', hA', hlt', _⟩ := h.sch.at_ 0 (by omega)
    rw [hA] at hA'
    cases hA'
    exact hlt'
  have keep : ∀ x, x < w.heap.size → x ≠ r → ov.ownBlock ≠ some x → w'.heap[x]? = w.heap[x]? := fun x h1 h2 h3 => mv.keep x h1 (by rintro (z | z); exact h2 z; exact h3 z)
  have kft : ∀ k, k < n → ∀ x, Ft (cd k) x → w'.heap[x]? = w.heap[x]? := fun k hk x hx => by
    have := h.ftlt hk hx
    exact keep x this.1 this.2.1 this.2.2.2
  refine ⟨⟨box', ?_, ?_, own', ?_, ?_, h.no, ?_, ?_, h.a2, ?_⟩, ?_⟩
  · refine cs_keep h.sch mv.size fun b o hA => ?_
    have h3 := h.a3 b o hA
    exact keep b (hbl b o hA) h3.1 h3.2.2.1
  · exact h.row.at_ (keep g h.row.lt (fun e => h.rg e.symm) h.ovg)
  · intro k hk hq
    obtain ⟨h1, h2⟩ := h.dic k hk hq
    exact ⟨h1, h2.at_ mv.size fun x hx => kft k hk x (.inl hx)⟩
  · exact fun k hk => Wd.own_keep (h.num k hk) fun x hx => kft k hk x (.inr hx)
  · intro k hk x hx
    have h3 := h.a0 k hk x hx
    refine ⟨Nat.lt_of_lt_of_le h3.1 mv.size, h3.2.1, h3.2.2.1, fun e => ?_, h3.2.2.2.2⟩
    rcases hN x e with y | y
    · exact h3.2.2.2.1 y
    · omega
  · intro k hk x hx e
    rcases hN x e with y | y
    · exact h.a1 k hk x hx y
    · have := (h.ftlt hk (.inr hx)).1
      omega
  · intro b o hA
    obtain ⟨h1, h2, h3, h4⟩ := h.a3 b o hA
    refine ⟨h1, h2, fun e => ?_, h4⟩
    rcases hN b e with y | y
    · exact h3 y
    · have := hbl b o hA
      omega
  · rintro x (hx | hx | hx | hx)
    · exact .inl (.inl hx)
    · exact .inl (.inr (.inl hx))
    · rcases hN x hx with y | y
      · exact .inl (.inr (.inr (.inl y)))
      · exact .inr ⟨y, (Wd.own_lt own' hx).1⟩
    · exact .inl (.inr (.inr (.inr hx)))
end
/-- What one column's values are behind k columns. -/
def Vk (V : Nat → List Vl) (row : List Vl) (k j : Nat) : List Vl := if j < k then V j ++ [row.getD j default] else V j
theorem vk_zero (V : Nat → List Vl) (row : List Vl) : Vk V row 0 = V := by funext j; simp [Vk]
theorem vk_at (V : Nat → List Vl) (row : List Vl) (k : Nat) : Vk V row k k = V k := by simp [Vk]
theorem vk_succ (V : Nat → List Vl) (row : List Vl) (k : Nat) : upd (Vk V row k) k (Vk V row k k ++ [row.getD k default]) = Vk V row (k + 1) := by
  funext j
  unfold upd
  by_cases e : j = k
  · subst e
    rw [if_pos rfl]
    simp [Vk]
  · rw [if_neg e]
    unfold Vk
    by_cases h : j < k
    · rw [if_pos h, if_pos (by omega)]
    · rw [if_neg h, if_neg (by omega)]
theorem append1_any {w : World} {r g : Nat} {A : Option Addr} {n c : Nat} {s : Sch} {most vals : Int} {cd : Nat → Cd} {V : Nat → List Vl} {ov : Value} {offs : List Int} (hl : Lay w r g A n c s most vals n cd V ov offs) {k : Nat} (hk : k < n) (x : Vl) (hx : Sc.Ok x)
    (hd : Dis (ow (V k)) vals) (ho : ∀ y ∈ ow (V k), Okv y) (hr : x ∈ ow (V k) ∨ ((ow (V k)).length : Int) < lim vals) (hlen : (V k).length ≤ 5000) (p b o m d : Nat) (hkm : k < m)
    (h1 : w.cell? ⟨p, 0, none⟩ = some (.slice (some ⟨b, o, none⟩) m d))
    (h2 : w.cell? ⟨b, o + k * 4, none⟩ = some (.int .i64 x.kind)) (h3 : w.cell? ⟨b, o + k * 4 + 1, none⟩ = some (.int .i64 x.i)) (h4 : w.cell? ⟨b, o + k * 4 + 2, none⟩ = some (.string x.s)) (h5 : w.cell? ⟨b, o + k * 4 + 3, none⟩ = some (.bool x.b)) :
    Calls Try.prog 33 #[.int .i64 k, .pointer (some ⟨g, k * 2, none⟩), .pointer (some ⟨p, 0, none⟩)] w fun e w' => e = .returned (.tuple #[]) ∧ Wd.Mv (Foot r g n cd ov) w w' ∧ ∃ e', Lay w' r g A n c s most vals n (upd cd k e') (upd V k (V k ++ [x])) ov offs ∧ ∀ y, Foot r g n (upd cd k e') ov y → Wd.Gr (Foot r g n cd ov) w w' y := by
  have Ca := Lib.hid (add_any hl hk x hx hd ho hr hlen)
  have hkI : (k : Int) < (m : Int) := by omega
  clear hl hd ho hr hlen hx
  go_enter Try.func33, Try.ntmps33
  go_wp2_with fail
  refine Ca.out.mono ?_
  rintro e w1 ⟨rfl, h⟩
  have H := Lib.hid h
  clear h
  go_wp2_with fail
  go_end0
  exact ⟨rfl, H.out⟩
end Rw
end Go.Proofs.Ytfeolclpgilfdaa
namespace Go.Proofs.Ytfeolclpgilfdaa
set_option maxRecDepth 20000
open Go.RowKit Go.Maps
namespace Rw
open Va (Vl May null)
open Sc (Sch FitS fits_get tr tr_yes tr_no tr_iff tr_congr)
open Dx (Okv)
open Dc (Dis lim fnd)
theorem col_more (S : St) (row : List Vl) (off : Int) (k : Nat) : col (more S row off).rows k = col S.rows k ++ [row.getD k default] := col_snoc _ _ _
set_option maxHeartbeats 4000000 in
/-- Behind the loop: each column has its value more. -/
theorem loop_any {w1 : World} {r g : Nat} {A : Option Addr} {n c : Nat} {S : St} {cd : Nat → Cd} {ov : Value} {row : List Vl} {B : Option Addr} {m d p : Nat} (ok : Ok S) (hn : n = S.s.cols.length) (hf : FitS S.s row) (hroom : Room S row)
    (hl : Lay w1 r g A n c S.s S.most S.vals n cd (col S.rows) ov S.offs) (hV : Wd.Vs w1 B m d row) (hB : ∀ b o, B = some ⟨b, o, none⟩ → ¬ Foot r g n cd ov b) (hp : Wd.Var w1 p 38 (.slice B m d)) (hpF : ¬ Foot r g n cd ov p) :
    Calls Try.prog 28 #[Dt.pt r, .func (.func 33) #[] #[.pointer (some ⟨p, 0, none⟩)]] w1 fun e w' => e = .returned (.tuple #[]) ∧ Wd.Mv (Foot r g n cd ov) w1 w' ∧ ∃ cd', Lay w' r g A n c S.s S.most S.vals n cd' (Vk (col S.rows) row n) ov S.offs ∧ ∀ y, Foot r g n cd' ov y → Wd.Gr (Foot r g n cd ov) w1 w' y := by
  have hn8 := (cols_len ok).2
  have hrl : row.length = S.s.cols.length := Sc.fits_len hf.2
  have hm : m = n := by rw [hV.len, hrl, hn]
  refine each_any 33 #[.pointer (some ⟨p, 0, none⟩)] r g n
    (fun k wk => Wd.Mv (Foot r g n cd ov) w1 wk ∧ ∃ cd', Lay wk r g A n c S.s S.most S.vals n cd' (Vk (col S.rows) row k) ov S.offs ∧ ∀ y, Foot r g n cd' ov y → Wd.Gr (Foot r g n cd ov) w1 wk y) w1 (by omega) goes_append
    (fun k wk hI => ?_) (fun k wk hk hI => ?_) ⟨Wd.Mv.refl _ _, cd, by rw [vk_zero]; exact hl, fun y hy => .inl hy⟩
  · obtain ⟨_, cd', hL, _⟩ := hI
    exact hL.c.2.2.2.2.2.2.2.1
  · obtain ⟨mv, cd', hL, hF⟩ := hI
    have hks : k < S.s.cols.length := by omega
    have hVk := vs_mv hV mv hB
    obtain ⟨b, o, hBe, hblt, c0, c1, c2, c3, -⟩ := hVk.cells (j := k) (by omega) rfl
    have vp := mv_var mv hp hpF
    rw [hBe] at vp
    have hrm := hroom k hks
    unfold Room1 at hrm
    rw [← lim_vals ok] at hrm
    have e0 := vk_at (col S.rows) row k
    refine (append1_any hL hk (row.getD k default) (fits_ok hf hks) (by rw [e0]; exact dis_col ok hks) (by rw [e0]; exact fun y hy => okv (ow_ok ok hks y hy)) (by rw [e0]; exact hrm) (by rw [e0, col_len]; have := ok.few; have := ok.m1; omega) p b o m d (by omega) vp.cell c0 c1 c2 c3).mono ?_
    rintro e w2 ⟨rfl, mv2, e', hL2, hF2⟩
    rw [vk_succ] at hL2
    refine ⟨rfl, mv.trans (mv2.mono hF), _, hL2, fun y hy => ?_⟩
    refine (Wd.Gr.trans mv.size mv2.size y).1 ?_
    rcases hF2 y hy with q | q
    · exact .inl (hF y q)
    · exact .inr q
set_option maxHeartbeats 4000000 in
theorem append_any {w : World} {r : Nat} {S : St} {F : Nat → Prop} {B : Option Addr} {m d : Nat} {row : List Vl} (off : Int) (h : R w r S F) (ok : Ok S) (hV : Wd.Vs w B m d row) (hB : ∀ b o, B = some ⟨b, o, none⟩ → row ≠ [] → ¬ F b) :
    Calls Try.prog 13 #[Dt.pt r, .slice B m d, .int .i64 off] w fun e w' => e = .returned (.tuple #[.int .i64 (num S row off), .int .i64 (er S row off)]) ∧ Wd.Mv F w w' ∧ ∃ F', R w' r (app S row off) F' ∧ ∀ x, F' x → Wd.Gr F w w' x := by
  have hb0 := (Below.refl w.heap.size w).alloc (Nat.le_refl _) (.cells #[.slice B m d] 38)
  have hp := Wd.Var.new w 38 (.slice B m d)
  have HR := Lib.hid h
  have Ca := Lib.hid (refusal_any off (h.below hb0) ok (hV.below hb0))
  have Hok := Lib.hid ok
  have HV := Lib.hid hV
  have HB := Lib.hid hB
  obtain ⟨E, hE⟩ : ∃ E, E = er S row off := ⟨_, rfl⟩
  rw [← hE] at Ca ⊢
  have HE := Lib.hid hE
  have HN := Lib.hid (show num S row off = if E = 0 then (S.rows.length : Int) else 0 by rw [hE]; rfl)
  have HA := Lib.hid (show app S row off = if E = 0 then more S row off else S by rw [hE]; rfl)
  rw [HN.out, HA.out]
  have c0 := hp.cell
  have Hp := Lib.hid hp
  clear hE h ok hV hB hp
  by_cases e0 : E = 0
  case neg =>
    rw [if_neg e0, if_neg e0]
    have hne : (E != 0) = true := by simpa using e0
    go_enter Try.func13, Try.ntmps13
    go_wp2_with fail
    refine Ca.out.mono ?_
    rintro e w1 ⟨rfl, hB1⟩
    go_wp2_with fail
    go_ret2
    have hb1 := hb0.trans (hB1.mono hb0.size)
    exact ⟨rfl, Wd.Mv.of_below hb1, F, HR.out.below hb1, fun x hx => .inl hx⟩
  rw [if_pos e0, if_pos e0]
  subst e0
  have HZ := Lib.hid (er_zero HE.out.symm)
  go_enter Try.func13, Try.ntmps13
  go_wp2_with fail
  refine Ca.out.mono ?_
  rintro e w1 ⟨rfl, hB1⟩
  have hb1 := hb0.trans (hB1.mono hb0.size)
  have Hb1 := Lib.hid hb1
  have Hp1 := Lib.hid (show Wd.Var w1 w.heap.size 38 (.slice B m d) from (hB1.block _ (by simp)).trans Hp.out)
  have HR1 := HR.out.below hb1
  obtain ⟨g, A, n, c, cd, ov, hn, hl, hn0, hF⟩ := HR1
  have hFw : ∀ x, Foot r g n cd ov x → x < w.heap.size := fun x hx => HR.out.lt ((hF x).2 (.inl hx))
  have Cl := Lib.hid (loop_any (p := w.heap.size) Hok.out hn HZ.out.1.1 (Classical.byContradiction fun q => HZ.out.2.2 (.inr q)) hl (HV.out.below hb1) (fun b o e q => HB.out b o e (fun z => by have h1 := Sc.fits_len HZ.out.1.1.2; have h2 := (cols_len Hok.out).1; rw [z] at h1; simp at h1; omega) ((hF b).2 (.inl q))) Hp1.out (fun q => by have := hFw _ q; omega))
  have HF := Lib.hid hF
  have Hn := Lib.hid hn
  have Hl := Lib.hid hl
  clear hb0 hB1 hb1 c0 Ca Hp hF hn hFw hl hn0
  go_wp2_with fail
  refine Cl.out.mono ?_
  rintro e w2 ⟨rfl, mv2, cd2, hl2, hF2⟩
  obtain ⟨A8, n8, c8, hov, hS8⟩ := Wd.Sl.of_own hl2.own
  have d8 := hl2.c.2.2.2.2.2.2.2.2
  have hn8 := hS8.len
  have hlen := Hok.out.len
  have hfew := Hok.out.few
  have hm1 := Hok.out.m1
  obtain ⟨A9, c9, w3, hrun, hown, hgr, hloc⟩ := run_appI_at (w2.alloc (.cells #[.int .i64 off] 3)) 51 0 ov S.offs (hl2.own.alloc _) ⟨w2.heap.size, 0, none⟩ off (by rw [Addr.add_lit]; exact (Wd.Bx.new w2 3 #[.int .i64 off]).cell 0) (by omega) (Nat.zero_le _)
  obtain ⟨M, hM⟩ : ∃ M, M = S.offs.length + 1 := ⟨_, rfl⟩
  rw [← hM] at hrun hown hloc
  have b3 := (hl2.box.alloc (.cells #[.int .i64 off] 3)).grown hgr (fun e => hl2.ovr e.symm)
  have f8 := b3.free 8
  have d9 : w3.cell? ⟨r, 8, none⟩ = some ov := b3.cell 8
  have e8 : (w3.setCell ⟨r, 8, none⟩ (.slice A9 M c9)).cell? ⟨r, 8, none⟩ = some (.slice A9 M c9) := (b3.set 8 (.slice A9 M c9)).cell 8
  have hM1 : M = S.rows.length + 1 := by omega
  have hM2 : (M : Int) - 1 = (S.rows.length : Int) := by omega
  have hM3 : M ≤ 5000 := by omega
  have Pk := Lib.hid (And.intro hM (And.intro hown (And.intro hgr (And.intro hloc (And.intro b3 (And.intro hl2 (And.intro mv2 (And.intro hF2 HF.out))))))))
  have HM1 := Lib.hid hM1
  have HM2 := Lib.hid hM2
  clear hM hown hgr hloc b3 hl2 mv2 hF2 hov hS8 hn8 hlen hfew hm1 Cl hM1 hM2
  go_wp2_with (at_builtin; refine wpList_run rfl _ _ rfl hrun ?_)
  go_ret2
  obtain ⟨hM, hown, hgr, hloc, b3, hl2, mv2, hF2, hFF⟩ := Pk.out
  have hnpos : 0 < n := by rw [Hn.out]; exact (cols_len Hok.out).1
  have mvO : Wd.Mv (fun x => x = r ∨ ov.ownBlock = some x) w2 (w3.setCell ⟨r, 8, none⟩ (.slice A9 M c9)) :=
    (((Wd.Mv.refl _ w2).alloc (.cells #[.int .i64 off] 3)).then (Wd.Mv.of_grown hgr (fun y hy => .inr hy))).set (.inl rfl) _
  have hnew : ∀ x, (Value.slice A9 M c9).ownBlock = some x → ov.ownBlock = some x ∨ w2.heap.size ≤ x := by
    intro x hx
    rcases hloc with q | q
    · exact .inl (by rw [← q, hx])
    · rw [hx] at q
      exact .inr (by have := Option.some.inj q; simp at this; omega)
  have hr9 : (Value.slice A9 M c9).ownBlock ≠ some r := fun q => by
    rcases hnew r q with z | z
    · exact hl2.ovr z
    · have := hl2.box.lt
      omega
  obtain ⟨hT, hT2⟩ := hl2.turnO hnpos (ov' := .slice A9 M c9) (offs' := S.offs ++ [off]) mvO (b3.set 8 _) (Wd.own_keep hown fun y hy => Below.heap_setCell _ _ _ _ (fun e => hr9 (by rw [show y = r from e] at hy; exact hy))) hnew
  have hs1 := Hb1.out.size
  have hF0 : ∀ y, Foot r g n cd2 ov y → Wd.Gr F w1 w2 y := fun y hy => by
    rcases hF2 y hy with q | q
    · exact .inl ((hFF y).2 (.inl q))
    · exact .inr q
  have mvF : Wd.Mv F w1 w2 := mv2.mono fun y hy => (hFF y).2 (.inl hy)
  have mvW : Wd.Mv F w1 (w3.setCell ⟨r, 8, none⟩ (.slice A9 M c9)) := mvF.trans (mvO.mono fun y hy => hF0 y (by
    rcases hy with q | q
    · exact .inl q
    · exact .inr (.inr (.inl q))))
  refine ⟨by rw [← HM2.out]; rfl, (Wd.Mv.of_below Hb1.out).then mvW, fun x => Foot r g n cd2 (.slice A9 M c9) x ∨ ∃ o, A = some ⟨x, o, none⟩, ⟨g, A, n, c, cd2, .slice A9 M c9, Hn.out, hT.congr fun k hk => ?_, hnpos, fun x => Iff.rfl⟩, fun x hx => ?_⟩
  · rw [col_more]
    unfold Vk
    rw [if_pos hk]
  · rcases hx with hx | hx
    case inr => exact .inl ((hFF x).2 (.inr hx))
    have h1 : Wd.Gr (Wd.Gr F w1 w2) w2 (w3.setCell ⟨r, 8, none⟩ (.slice A9 M c9)) x := by
      rcases hT2 x hx with q | q
      · exact .inl (hF0 x q)
      · exact .inr q
    rcases (Wd.Gr.trans mvF.size mvO.size x).1 h1 with q | q
    · exact .inl q
    · exact .inr ⟨by omega, q.2⟩
end Rw
end Go.Proofs.Ytfeolclpgilfdaa
namespace Go.Proofs.Ytfeolclpgilfdaa
set_option maxRecDepth 20000
open Go.RowKit Go.Maps
namespace Rw
open Va (Vl May null)
open Sc (Sch FitS MayS fits_get tr tr_yes tr_no tr_iff tr_congr)
open Dx (Okv)
open Dc (Dis lim fnd)
/-- A row that make has made, as a block known whole. -/
theorem bx_of_own {w : World} {base g n size : Nat} {e : TypeId} {xs : List Value} (h : w.ownsRow base e size (.slice (some ⟨g, 0, none⟩) n n) n xs) : Wd.Bx w g e xs.toArray := by
  obtain ⟨h1, h2⟩ := h
  rcases h2 with ⟨h', _⟩ | ⟨g', cap', cur, h', hb, hg, h3, h4, h5, h6⟩
  · simp at h'
  · simp only [Value.slice.injEq, Option.some.injEq, Addr.mk.injEq, and_true, true_and] at h'
    obtain ⟨rfl, rfl⟩ := h'
    unfold Wd.Bx
    rw [hg]
    have : cur = xs.toArray := by
      rw [← h6, List.take_of_length_le (by simp; omega)]
    rw [this]
/-- A column that has nothing yet. -/
def cd0 : Cd := ⟨.pointer none, .slice none 0 0, 0, 0, .slice none 0 0, fun _ => False⟩
theorem made_col (n : Nat) : (madeCells (Value.agg #[.pointer none, .slice none 0 0]).cells (n * 2)).toList = cc (fun _ => cd0) n := by
  refine List.ext_getElem? fun j => ?_
  by_cases hj : j < n * 2
  · rw [cc_get _ hj]
    have h2 : j % 2 = 0 ∨ j % 2 = 1 := by omega
    rcases h2 with h2 | h2
    · rw [if_pos h2]
      simp [madeCells, Value.cells, hj, h2, cd0]
    · rw [if_neg (by omega)]
      simp [madeCells, Value.cells, hj, h2, cd0]
  · rw [List.getElem?_eq_none (by simp [madeCells]; omega), List.getElem?_eq_none (by rw [cc_len]; omega)]
theorem cd0_ft (x : Nat) : ¬ Ft cd0 x := by
  rintro (q | q)
  · exact q
  · simp [cd0, Value.ownBlock] at q
/-- Nothing is there yet. -/
theorem Lay.none_ {w : World} {r g : Nat} {A : Option Addr} {n c : Nat} {s : Sch} {most vals : Int}
    (box : Wd.Bx w r 63 #[.slice A n c, .int .i64 s.key, .int .i64 s.cmp, .int .i64 s.del, .int .i64 s.sort, .int .i64 most, .int .i64 vals, .slice (some ⟨g, 0, none⟩) n n, .slice none 0 0])
    (sch : Wd.Cs w A n c s.cols) (row : Wd.Bx w g 69 (cc (fun _ => cd0) n).toArray) (hA : ∀ b o, A = some ⟨b, o, none⟩ → b ≠ r ∧ b ≠ g) :
    Lay w r g A n c s most vals 0 (fun _ => cd0) (fun _ => []) (.slice none 0 0) [] :=
  ⟨box, sch, row, World.ownsRow_nil _ _ _ _, fun k _ h => by omega, fun k _ => World.ownsRow_nil _ _ _ _, fun k _ _ => ⟨rfl, fun x h => h⟩, fun k _ x h => h.elim, fun k _ x h => by simp [cd0, Value.ownBlock] at h, fun i j _ _ _ x h => (cd0_ft x h).elim,
    fun b o e => ⟨(hA b o e).1, (hA b o e).2, by simp [Value.ownBlock], fun k _ h => cd0_ft b h⟩⟩
set_option maxHeartbeats 1000000 in
theorem new1_any {w : World} {r g : Nat} {A : Option Addr} {n c : Nat} {s : Sch} {most vals : Int} {cd : Nat → Cd} {k : Nat} (hl : Lay w r g A n c s most vals k cd (fun _ => []) (.slice none 0 0) []) (hk : k < n) (hc : cd k = cd0) (p : Nat) (hp : w.cell? ⟨p, 0, none⟩ = some (.int .i64 vals)) :
    Calls Try.prog 29 #[.int .i64 k, .pointer (some ⟨g, k * 2, none⟩), .pointer (some ⟨p, 0, none⟩)] w fun e w' => e = .returned (.tuple #[]) ∧ Wd.Mv (· = g) w w' ∧ ∃ e', Lay w' r g A n c s most vals (k + 1) (upd cd k e') (fun _ => []) (.slice none 0 0) [] ∧ ∀ y, Foot r g n (upd cd k e') (.slice none 0 0) y → Wd.Gr (Foot r g n cd (.slice none 0 0)) w w' y := by
  have Cn := Lib.hid fun w => Dt.new_any vals w
  have HL := Lib.hid hl
  have Hc := Lib.hid hc
  clear hl hc
  go_enter Try.func29, Try.ntmps29
  go_wp2_with fail
  refine (Cn.out w).mono ?_
  rintro e w1 ⟨d, G, rfl, ⟨m, v, hD⟩, hB1, hG⟩
  have b1 : Wd.Bx w1 g 69 (cc cd n).toArray := (hB1.block g HL.out.row.lt).trans HL.out.row
  have c1 : w1.cell? ⟨g, k * 2, none⟩ = some (cd k).dp := (b1.cell (k * 2)).trans (cc_dp cd hk)
  have f1 := b1.free (k * 2)
  have Pk := Lib.hid (And.intro hD (And.intro hB1 (And.intro hG b1)))
  clear hD hB1 hG b1
  go_wp2_with fail
  go_end0
  obtain ⟨hD, hB1, hG, b1⟩ := Pk.out
  have hgG : ¬ G g := fun q => by have := hG g q; have := HL.out.row.lt; omega
  have mv : Wd.Mv (· = g) w (w1.setCell ⟨g, k * 2, none⟩ (Dt.pt d)) := (Wd.Mv.of_below (G := (· = g)) hB1).set (a := ⟨g, k * 2, none⟩) rfl _
  have hT := HL.out.turn hk (e := ⟨Dt.pt d, .slice none 0 0, d, m, v, G⟩) (l := []) (k + 1) (mv.mono fun y hy => .inl hy)
    (by
      rw [← cc_set_dp cd ⟨Dt.pt d, .slice none 0 0, d, m, v, G⟩ (by rw [Hc.out]; rfl) hk]
      exact b1.set (k * 2) _)
    rfl (hD.at_ (by simp [World.setCell]) fun y hy => Below.heap_setCell _ _ _ _ (fun e => hgG (by rw [show y = g from e] at hy; exact hy))) (World.ownsRow_nil _ _ _ _) (fun y hy => .inr (hG y hy)) (fun y hy => by simp [Value.ownBlock] at hy) (fun y _ => by simp [Value.ownBlock]) (fun j _ hj => by omega) (by omega)
  refine ⟨rfl, mv, _, hT.1.congr (V' := fun _ => []) fun j hj => ?_, hT.2⟩
  unfold upd
  split <;> rfl
end Rw
end Go.Proofs.Ytfeolclpgilfdaa
