/- Package rows: At where there is no such row; Column, Values, Offsets. Package rows: Column. Package rows: refusal. -/
import Derived.BigQuiet
import Derived.Deep.QuietTactic
import Derived.Test.YtfeolclpgilfdaaPk16
import Derived.Test.YtfeolclpgilfdaaPk15
namespace Go.Proofs.Ytfeolclpgilfdaa
set_option maxRecDepth 20000
open Go.RowKit Go.Maps
namespace Rw
open Va (Vl May null)
open Dx (Okv ag)
open Cx (fillV fillV_zero fillV_all fillV_len fillV_set)
theorem at_out {w : World} {r : Nat} {S : St} {F : Nat → Prop} (h : R w r S F) (ok : Ok S) (i : Int) (hi : ¬ (0 ≤ i ∧ i < (S.rows.length : Int))) :
    Calls Try.prog 17 #[Dt.pt r, .int .i64 i] w fun e w' => e = .returned (.tuple #[.slice none 0 0, .int .i64 0, .bool false]) ∧ Below w.heap.size w w' := by
  obtain ⟨g, A, n, c, cd, ov, hn, hl, -⟩ := h
  have hlen := ok.len
  have hfew := ok.few
  have hm1 := ok.m1
  obtain ⟨n8, hn8⟩ : ∃ n8, n8 = S.offs.length := ⟨_, rfl⟩
  have Cl := Lib.hid fun w' (hb : Below w.heap.size w w') => len_any (hl.below hb)
  rw [← hn8] at Cl
  have h48 : n8 ≤ 4096 := by omega
  have Cw := Lib.hid (within_any i 0 ((n8 : Int) - 1))
  rw [decide_eq_false (by omega)] at Cw
  have hb0 := (Below.refl w.heap.size w).alloc (Nat.le_refl _) (.cells #[.int .i64 i] 3)
  have hp := Wd.Var.new w 3 (.int .i64 i)
  have c0 := hp.cell
  clear hl hn8 hlen hfew hm1 hi hp
  go_enter Try.func17, Try.ntmps17
  go_wp2_with fail
  generalize w.alloc (.cells #[.int .i64 i] 3) = wa at *
  go_quiet (first | (go_at_call 16; exact Calls.quiet_of_same (Cl.out _ (Wd.below_drewN hb0 _))) | (go_at_call 26; exact Calls.quiet_of_same (Cw.out _)))
  go_wp2_with fail
  go_ret3
  exact ⟨rfl, Wd.below_drewN hb0 _⟩
theorem at_nil (i : Int) (w : World) : Calls Try.prog 17 #[.pointer none, .int .i64 i] w fun e w' => e = .returned (.tuple #[.slice none 0 0, .int .i64 0, .bool false]) ∧ Below w.heap.size w w' := by
  have Cl := Lib.hid len_nil
  have Cw := Lib.hid (within_any i 0 (-1))
  rw [decide_eq_false (by omega)] at Cw
  have hb0 := (Below.refl w.heap.size w).alloc (Nat.le_refl _) (.cells #[.int .i64 i] 3)
  have hp := Wd.Var.new w 3 (.int .i64 i)
  have c0 := hp.cell
  clear hp
  go_enter Try.func17, Try.ntmps17
  go_wp2_with fail
  generalize w.alloc (.cells #[.int .i64 i] 3) = wa at *
  go_quiet (first | (go_at_call 16; exact Calls.quiet_of_same (Cl.out _)) | (go_at_call 26; exact Calls.quiet_of_same (Cw.out _)))
  go_wp2_with fail
  go_ret3
  exact ⟨rfl, Wd.below_drewN hb0 _⟩
theorem values_in {w : World} {r : Nat} {S : St} {F : Nat → Prop} (h : R w r S F) (ok : Ok S) (k : Nat) (hk : k < S.s.cols.length) :
    Calls Try.prog 23 #[Dt.pt r, .int .i64 k] w fun e w' => e = .returned (.int .i64 ((ow (col S.rows k)).length : Int)) ∧ Below w.heap.size w w' := by
  obtain ⟨g, A, n, c, cd, ov, hn, hl, -⟩ := h
  have hkn : k < n := by omega
  have hn8 := (cols_len ok).2
  obtain ⟨edp, hD⟩ := hl.dic k hkn hkn
  obtain ⟨An, nn, cn, hnv, hN⟩ := Wd.Sl.of_own (hl.num k hkn)
  have Cf := Lib.hid (find_in hl (by omega) k hkn)
  rw [edp, hnv] at Cf
  have hfd : ∀ w : World, (Instr.field 69 (.agg #[Dt.pt (cd k).d, .slice An nn cn]) 0).run Try.prog w = .ok (Dt.pt (cd k).d) w := fun _ => by kernel_rfl
  have Cl := Lib.hid fun w' (hb : Below w.heap.size w w') => Dt.len_any (hD.below hb)
  clear hl edp hD hnv hN hn hkn hn8
  go_enter Try.func23, Try.ntmps23
  go_wp2_with fail
  refine Cf.out.mono ?_
  rintro e w1 ⟨rfl, hB1⟩
  go_wp2_with fail
  refine (Cl.out w1 hB1).mono ?_
  rintro e w2 ⟨rfl, e2⟩
  subst e2
  go_wp2_with fail
  go_ret
  exact ⟨rfl, hB1⟩
theorem dlen_nil (w : World) : Calls Try.prog 44 #[.pointer none] w fun e w' => e = .returned (.int .i64 0) ∧ w' = w := by
  go_enter Try.func44, Try.ntmps44
  go_wp2_with fail
  go_ret
  exact ⟨rfl, rfl⟩
theorem values_none {w : World} {p : Value} {k : Int} (Cf : Calls Try.prog 42 #[p, .int .i64 k] w fun e w' => e = .returned (.agg #[.pointer none, .slice none 0 0]) ∧ Below w.heap.size w w') :
    Calls Try.prog 23 #[p, .int .i64 k] w fun e w' => e = .returned (.int .i64 0) ∧ Below w.heap.size w w' := by
  have hfd : ∀ w : World, (Instr.field 69 (.agg #[.pointer none, .slice none 0 0]) 0).run Try.prog w = .ok (.pointer none) w := fun _ => by kernel_rfl
  have Cl := Lib.hid dlen_nil
  have Cf := Lib.hid Cf
  go_enter Try.func23, Try.ntmps23
  go_wp2_with fail
  refine Cf.out.mono ?_
  rintro e w1 ⟨rfl, hB1⟩
  go_wp2_with fail
  refine (Cl.out w1).mono ?_
  rintro e w2 ⟨rfl, e2⟩
  subst e2
  go_wp2_with fail
  go_ret
  exact ⟨rfl, hB1⟩
theorem offsets_any {w : World} {r : Nat} {S : St} {F : Nat → Prop} (h : R w r S F) (ok : Ok S) :
    Calls Try.prog 22 #[Dt.pt r] w fun e w' => ∃ v, e = .returned v ∧ w'.ownsRow w.heap.size 3 1 v S.offs.length (S.offs.map (Value.int .i64)) ∧ Below w.heap.size w w' := by
  obtain ⟨g, A, n, c, cd, ov, hn, hl, -⟩ := h
  obtain ⟨A8, n8, c8, hov, hS8⟩ := Wd.Sl.of_own hl.own
  have d8 := hl.c.2.2.2.2.2.2.2.2
  rw [hov] at d8
  have Cc := Lib.hid (cloneI_any A8 n8 c8 S.offs w hS8 (by have := ok.len; have := ok.few; have := ok.m1; omega))
  clear hl hov hS8
  go_enter Try.func22, Try.ntmps22
  go_wp2_with fail
  refine Cc.out.mono ?_
  rintro e w1 ⟨v, rfl, hown, hB1⟩
  have Pk := Lib.hid (And.intro hown hB1)
  clear hown hB1
  go_wp2_with fail
  go_ret
  exact ⟨v, rfl, Pk.out.1, Pk.out.2⟩
theorem offsets_nil (w : World) : Calls Try.prog 22 #[.pointer none] w fun e w' => e = .returned (.slice none 0 0) ∧ w' = w := by
  go_enter Try.func22, Try.ntmps22
  go_wp2_with fail
  go_ret
  exact ⟨rfl, rfl⟩
theorem append_nil {w : World} {B : Option Addr} {m d : Nat} (off : Int) : Calls Try.prog 13 #[.pointer none, .slice B m d, .int .i64 off] w fun e w' => e = .returned (.tuple #[.int .i64 0, .int .i64 1]) ∧ Below w.heap.size w w' := by
  have Cr : ∀ w : World, Calls Try.prog 32 #[.pointer none, .slice B m d, .int .i64 off] w fun e w' => e = .returned (.int .i64 1) ∧ w' = w := fun w => by
    go_enter Try.func32, Try.ntmps32
    go_wp2_with fail
    go_ret
    exact ⟨rfl, rfl⟩
  have Cr := Lib.hid Cr
  have hb0 := (Below.refl w.heap.size w).alloc (Nat.le_refl _) (.cells #[.slice B m d] 38)
  have hp := Wd.Var.new w 38 (.slice B m d)
  have c0 := hp.cell
  clear hp
  go_enter Try.func13, Try.ntmps13
  go_wp2_with fail
  refine (Cr.out _).mono ?_
  rintro e w1 ⟨rfl, e1⟩
  subst e1
  go_wp2_with fail
  go_ret2
  exact ⟨rfl, hb0⟩
end Rw
end Go.Proofs.Ytfeolclpgilfdaa
namespace Go.Proofs.Ytfeolclpgilfdaa
set_option maxRecDepth 20000
open Go.RowKit Go.Maps
namespace Rw
open Va (Vl May null)
open Dx (Okv ag)
open Cx (fillV fillV_zero fillV_all fillV_len fillV_set)
set_option maxHeartbeats 4000000 in
theorem column_in {w : World} {r : Nat} {S : St} {F : Nat → Prop} (h : R w r S F) (ok : Ok S) (k : Nat) (hk : k < S.s.cols.length) :
    Calls Try.prog 19 #[Dt.pt r, .int .i64 k] w fun e w' => ∃ gr, e = .returned (.slice (some ⟨gr, 0, none⟩) S.rows.length S.rows.length) ∧ Wd.RowV w' gr (col S.rows k) ∧ w.heap.size ≤ gr ∧ Below w.heap.size w w' := by
  obtain ⟨g, A, n, c, cd, ov, hn, hl, -⟩ := h
  have hkn : k < n := by omega
  have hn8 := (cols_len ok).2
  obtain ⟨edp, hD⟩ := hl.dic k hkn hkn
  obtain ⟨An, nn, cn, hnv, hN⟩ := Wd.Sl.of_own (hl.num k hkn)
  have hnl := hN.len
  rw [nm_len, col_len] at hnl
  have hfew := ok.few
  have hm1 := ok.m1
  have Cf := Lib.hid (find_in hl (by omega) k hkn)
  rw [edp, hnv] at Cf
  obtain ⟨T, hT⟩ : ∃ T, T = col S.rows k := ⟨_, rfl⟩
  have hTl : nn = T.length := by rw [hT, col_len, hnl]
  have Ca := Lib.hid fun (i : Nat) (hi : i < nn) w' (hb : Below w.heap.size w w') gc (h0 : w'.cell? ⟨gc, 0, none⟩ = some (Dt.pt (cd k).d)) (h1 : w'.cell? ⟨gc, 1, none⟩ = some (.slice An nn cn)) (hgc : gc < w'.heap.size) => by
    have := colAt_any (hl.below hb) ok hn hkn (show i < S.rows.length by omega) gc 0 (by rw [edp]; exact h0) (by rw [hnv]; exact h1) hgc
    rw [← hT] at this
    unfold ag at this
    exact this
  obtain ⟨N, hNN⟩ : ∃ N, N = S.rows.length := ⟨_, rfl⟩
  rw [← hNN, ← hT]
  obtain rfl : N = nn := by omega
  have hn4 : N ≤ 4096 := by omega
  obtain ⟨j0, hj, gz0, gz1, gz2⟩ := info_parts Wd.info_vl
  have HTl := Lib.hid hTl
  obtain ⟨d, hd⟩ : ∃ d, d = (cd k).d := ⟨_, rfl⟩
  rw [← hd] at Cf Ca
  clear hl edp hD hnv hN hn hkn hn8 hnl hfew hm1 hT hTl hNN hd
  go_enter Try.func19, Try.ntmps19
  go_wp2_with fail
  refine Cf.out.mono ?_
  rintro e w1 ⟨rfl, hB1⟩
  have x2 : Wd.Bx (w1.alloc (.cells #[Dt.pt d, .slice An N cn] 69)) w1.heap.size 69 #[Dt.pt d, .slice An N cn] := Wd.Bx.new w1 _ _
  have hb2 := hB1.alloc hB1.size (.cells #[Dt.pt d, .slice An N cn] 69)
  have hs1 := hB1.size
  have Hb2 := Lib.hid hb2
  have Hx2 := Lib.hid x2
  have c0 : (w1.alloc (.cells #[Dt.pt d, .slice An N cn] 69)).cell? ⟨w1.heap.size, 0, none⟩ = some (Dt.pt d) := x2.cell 0
  have c1 : (w1.alloc (.cells #[Dt.pt d, .slice An N cn] 69)).cell? ⟨w1.heap.size, 1, none⟩ = some (.slice An N cn) := x2.cell 1
  clear hB1 hb2 x2
  go_wp2_with (at_make; refine wpList_make_full _ rfl (.tmp 13) (.tmp 13) 38 rfl (w1.heap.size + 1) 49 j0 _ 4 Try.underlying38 hj gz0 gz1 .i64 .i64 (N : Int) (N : Int) N rfl rfl rfl rfl (by rw [gz2]; omega) (by unfold maxLen; omega) (by simp) ?_; intro w3 hown hgrow; rw [Wd.made_null] at hown)
  rw [World.size_alloc] at hown
  obtain ⟨hR0, -, -⟩ := Wd.RowV.of_own hown
  have hB3 : Below (w1.heap.size + 1) (w1.alloc (.cells #[Dt.pt d, .slice An N cn] 69)) w3 := (Below.refl _ _).grown hgrow (by simp) (by simp)
  have hb3 : Below w.heap.size w w3 := Hb2.out.trans (hB3.mono (by omega))
  have hx3 : Wd.Bx w3 w1.heap.size 69 #[Dt.pt d, .slice An N cn] := Wd.Bx.below Hx2.out (by omega) hB3
  have hR1 : Wd.RowV w3 (w1.heap.size + 1) (fillV T 0) := by rw [fillV_zero, ← HTl.out]; exact hR0
  have I0 := Lib.hid (And.intro hR1 (And.intro hb3 hx3))
  have Hs1 := Lib.hid hs1
  clear hown hgrow hR0 hB3 hb3 hx3 hR1 hs1 c0 c1
  go_loopw [17] (fun j wr => ∃ q : Nat, j = .int .i64 q ∧ q ≤ N ∧ Wd.RowV wr (w1.heap.size + 1) (fillV T q) ∧ Below w.heap.size w wr ∧ Wd.Bx wr w1.heap.size 69 #[Dt.pt d, .slice An N cn]) (fun j _ => N - (intOf j).toNat)
  case atStart => exact ⟨0, rfl, Nat.zero_le _, I0.out.1, I0.out.2.1, I0.out.2.2⟩
  case round =>
    obtain ⟨q, rfl, hq, hR, hb, hx⟩ := hrel
    by_cases hlt : q < N
    · have hqI : (q : Int) < (N : Int) := by omega
      have Cq := Lib.hid (Ca.out q hlt wr hb w1.heap.size (hx.cell 0) (hx.cell 1) hx.lt)
      have HR := Lib.hid hR
      have Hb := Lib.hid hb
      have Hx := Lib.hid hx
      have hql : q < (fillV T q).length := by rw [fillV_len, ← HTl.out]; exact hlt
      have Hql := Lib.hid hql
      clear hR hb hx hql
      go_wp2_with fail
      refine Cq.out.mono ?_
      rintro e w5 ⟨rfl, hB5⟩
      have hR5 : Wd.RowV w5 (w1.heap.size + 1) (fillV T q) := Wd.RowV.below HR.out HR.out.lt hB5
      obtain ⟨y, ⟨y0, y1, y2, y3⟩, f0, f1, f2, f3⟩ := hR5.four Hql.out
      have HR5 := Lib.hid hR5
      have HB5 := Lib.hid hB5
      clear hR5 hB5
      go_wp2_with fail
      go_roundw
      case rel =>
        have hs := Hs1.out
        have hb5 := Hb.out.trans (HB5.out.mono Hb.out.size)
        refine ⟨q + 1, by go_num, by omega, ?_, ?_, ?_⟩
        · rw [← fillV_set T q (by rw [← HTl.out]; exact hlt)]
          exact HR5.out.set q Hql.out _
        · exact (((hb5.setCell (p := ⟨w1.heap.size + 1, q * 4, none⟩) (by simp; omega) _).setCell (p := ⟨w1.heap.size + 1, q * 4 + 1, none⟩) (by simp; omega) _).setCell (p := ⟨w1.heap.size + 1, q * 4 + 2, none⟩) (by simp; omega) _).setCell (p := ⟨w1.heap.size + 1, q * 4 + 3, none⟩) (by simp; omega) _
        · have hx5 : Wd.Bx w5 w1.heap.size 69 #[Dt.pt d, .slice An N cn] := Wd.Bx.below Hx.out Hx.out.lt HB5.out
          exact (((hx5.other (a := ⟨w1.heap.size + 1, q * 4, none⟩) (by simp) _).other (a := ⟨w1.heap.size + 1, q * 4 + 1, none⟩) (by simp) _).other (a := ⟨w1.heap.size + 1, q * 4 + 2, none⟩) (by simp) _).other (a := ⟨w1.heap.size + 1, q * 4 + 3, none⟩) (by simp) _
      case measure => simp [intOf]; omega
    · have hqI : ¬ (q : Int) < (N : Int) := by omega
      have hR' : Wd.RowV wr (w1.heap.size + 1) T := by
        have e : q = T.length := by have := HTl.out; omega
        rw [e, fillV_all] at hR
        exact hR
      have HR := Lib.hid hR'
      have Hb := Lib.hid hb
      clear hR hR' hb hx
      go_wp2_with fail
      go_ret
      exact ⟨_, rfl, HR.out, by have := Hs1.out; omega, Hb.out⟩
theorem column_none {w : World} {p : Value} {k : Int} (Cf : Calls Try.prog 42 #[p, .int .i64 k] w fun e w' => e = .returned (.agg #[.pointer none, .slice none 0 0]) ∧ Below w.heap.size w w') :
    Calls Try.prog 19 #[p, .int .i64 k] w fun e w' => ∃ gr, e = .returned (.slice (some ⟨gr, 0, none⟩) 0 0) ∧ Wd.RowV w' gr [] ∧ w.heap.size ≤ gr ∧ Below w.heap.size w w' := by
  obtain ⟨j0, hj, gz0, gz1, gz2⟩ := info_parts Wd.info_vl
  have Cf := Lib.hid Cf
  go_enter Try.func19, Try.ntmps19
  go_wp2_with fail
  refine Cf.out.mono ?_
  rintro e w1 ⟨rfl, hB1⟩
  have x2 : Wd.Bx (w1.alloc (.cells #[.pointer none, .slice none 0 0] 69)) w1.heap.size 69 #[.pointer none, .slice none 0 0] := Wd.Bx.new w1 _ _
  have hb2 := hB1.alloc hB1.size (.cells #[.pointer none, .slice none 0 0] 69)
  have hs1 := hB1.size
  have Hb2 := Lib.hid hb2
  have c0 : (w1.alloc (.cells #[.pointer none, .slice none 0 0] 69)).cell? ⟨w1.heap.size, 0, none⟩ = some (.pointer none) := x2.cell 0
  have c1 : (w1.alloc (.cells #[.pointer none, .slice none 0 0] 69)).cell? ⟨w1.heap.size, 1, none⟩ = some (.slice none 0 0) := x2.cell 1
  clear hB1 hb2 x2
  go_wp2_with (at_make; refine wpList_make_full _ rfl (.tmp 13) (.tmp 13) 38 rfl (w1.heap.size + 1) 49 j0 _ 4 Try.underlying38 hj gz0 gz1 .i64 .i64 0 0 0 rfl rfl rfl rfl (by rw [gz2]; omega) (by unfold maxLen; omega) (by simp) ?_; intro w3 hown hgrow; rw [Wd.made_null] at hown)
  rw [World.size_alloc] at hown
  obtain ⟨hR0, -, -⟩ := Wd.RowV.of_own hown
  have hB3 : Below (w1.heap.size + 1) (w1.alloc (.cells #[.pointer none, .slice none 0 0] 69)) w3 := (Below.refl _ _).grown hgrow (by simp) (by simp)
  have hb3 : Below w.heap.size w w3 := Hb2.out.trans (hB3.mono (by omega))
  have I0 := Lib.hid (And.intro hR0 hb3)
  have Hs1 := Lib.hid hs1
  clear hown hgrow hR0 hB3 hb3 hs1 c0 c1
  refine wp_loop_rounds 1 ?_
  rw [rounds_succ]
  go_wp2_with fail
  go_ret
  exact ⟨_, rfl, I0.out.1, by have := Hs1.out; omega, I0.out.2⟩
end Rw
end Go.Proofs.Ytfeolclpgilfdaa
namespace Go.Proofs.Ytfeolclpgilfdaa
set_option maxRecDepth 20000
open Go.RowKit
namespace Rw
open Va (Vl May null)
open Sc (Sch FitS fits_get tr tr_yes tr_no tr_iff tr_congr)
set_option maxHeartbeats 4000000 in
theorem refusal_any {w : World} {r : Nat} {S : St} {F : Nat → Prop} {B : Option Addr} {m d : Nat} {row : List Vl} (off : Int) (h : R w r S F) (ok : Ok S) (hV : Wd.Vs w B m d row) :
    Calls Try.prog 32 #[Dt.pt r, .slice B m d, .int .i64 off] w fun e w' => e = .returned (.int .i64 (er S row off)) ∧ Below w.heap.size w w' := by
  have HR := Lib.hid h
  obtain ⟨g, A, n, c, cd, ov, hn, hl, -⟩ := h
  have hn8 := (cols_len ok).2
  obtain ⟨E, hE⟩ : ∃ E, E = er S row off := ⟨_, rfl⟩
  rw [← hE]
  have HE := Lib.hid hE
  have HL := Lib.hid hl
  have HV := Lib.hid hV
  have Cf := Lib.hid (Sx.Fits_any A n c S.s B m d row w hl.sch hV (by omega))
  have Cw := Lib.hid (within_any off 0 1099511627776)
  obtain ⟨A2, n2, c2, hov, hS2⟩ := Wd.Sl.of_own hl.own
  have c0 := hl.c.1
  have c1 := hl.c.2.1
  have c2' := hl.c.2.2.1
  have c3 := hl.c.2.2.2.1
  have c4 := hl.c.2.2.2.2.1
  have Hok := Lib.hid ok
  have Hov := Lib.hid (And.intro hov hS2)
  clear hE hl hV hn8 hn ok hov hS2
  by_cases hF : FitS S.s row
  case neg =>
    have e1 := Lib.hid (HE.out.trans (er_arg fun q => hF q.1))
    rw [tr_no hF] at Cf
    clear hF
    go_enter Try.func32, Try.ntmps32
    go_wp2_with fail
    refine Cf.out.mono ?_
    rintro e w1 ⟨rfl, hB1⟩
    go_wp2_with fail
    go_ret
    exact ⟨by rw [e1.out]; rfl, hB1⟩
  rw [tr_yes hF] at Cf
  have HF := Lib.hid hF
  clear hF
  by_cases hO : 0 ≤ off ∧ off ≤ 1099511627776
  case neg =>
    have e1 := Lib.hid (HE.out.trans (er_arg fun q => hO q.2))
    rw [decide_eq_false hO] at Cw
    clear hO
    go_enter Try.func32, Try.ntmps32
    go_wp2_with fail
    refine Cf.out.mono ?_
    rintro e w1 ⟨rfl, hB1⟩
    go_wp2_with fail
    refine (Cw.out w1).mono ?_
    rintro e w2 ⟨rfl, hw2⟩
    subst hw2
    go_wp2_with fail
    go_ret
    exact ⟨by rw [e1.out]; rfl, hB1⟩
  rw [decide_eq_true hO] at Cw
  have hA : Arg S row off := ⟨HF.out, hO⟩
  have HA := Lib.hid hA
  clear hO hA
  have key : ∀ w1 : World, Below w.heap.size w w1 → R w1 r S F ∧ Lay w1 r g A n c S.s S.most S.vals n cd (col S.rows) ov S.offs ∧ Wd.Vs w1 B m d row := fun w1 hB => ⟨HR.out.below hB, HL.out.below hB, HV.out.below hB⟩
  have Key := Lib.hid key
  clear key
  go_enter Try.func32, Try.ntmps32
  go_wp2_with fail
  refine Cf.out.mono ?_
  rintro e w1 ⟨rfl, hB1⟩
  go_wp2_with fail
  refine (Cw.out w1).mono ?_
  rintro e w1' ⟨rfl, hw2⟩
  subst hw2
  clear c0 c1 c2' c3 c4 Cf Cw
  obtain ⟨k1, k2, k3⟩ := Key.out _ hB1
  have d5 := k2.c.2.2.2.2.2.1
  have d8 := k2.c.2.2.2.2.2.2.2.2
  rw [Hov.out.1] at d8
  have hS := Hov.out.2.below hB1
  have hlen := hS.len
  have hcap := hS.cap
  have hmx := hS.max
  unfold maxLen at hmx
  have hfew := Hok.out.few
  have hm1 := Hok.out.m1
  have hlen2 := Hok.out.len
  have hn4 : n2 ≤ 4096 := by omega
  have K1 := Lib.hid k1
  have K3 := Lib.hid k3
  have Hm := Lib.hid (show (S.most = (n2 : Int)) ↔ S.most ≤ (S.rows.length : Int) by omega)
  have Hn2 := Lib.hid hlen
  have HS := Lib.hid hS
  clear k1 k2 k3 hlen hfew hm1 hlen2 hS
  by_cases h0 : n2 = 0
  · have hnl : Hid (¬ Late S off) := Lib.hid fun q => q.1 (List.eq_nil_of_length_eq_zero (by rw [← Hn2.out]; exact h0))
    subst h0
    go_wp2_with fail
    go_quiet (fail)
    go_wp2_with fail
    have hb2 : Below w.heap.size w (w1'.drewN nq) := Wd.below_drewN hB1 _
    clear d5 d8
    generalize w1'.drewN nq = w2 at *
    obtain ⟨k1, k2, k3⟩ := Key.out _ hb2
    have d5 := k2.c.2.2.2.2.2.1
    have d8 := k2.c.2.2.2.2.2.2.2.2
    rw [Hov.out.1] at d8
    have K1 := Lib.hid k1
    have K3 := Lib.hid k3
    clear k1 k2 k3
    have hbd : Below w2.heap.size w2 w2.drew := (Below.refl _ _).drew
    have Cr := Lib.hid (room_any (K1.out.below hbd) Hok.out (K3.out.below hbd) HF.out)
    clear hbd
    by_cases hf : S.most = ((0 : Int) : Int)
    · have e1 := Lib.hid (HE.out.trans (er_full HA.out hnl.out (.inl (Hm.out.1 hf))))
      have hb : (((0 : Int) : Int) == S.most) = true := by rw [hf]; simp
      clear hf
      refine wp_region_still_tail 13 (by kernel_rfl) (by kernel_rfl) ?_
      simp only [List.take_succ_cons, List.take_zero, List.drop_succ_cons, List.drop_zero]
      refine Sk.St.out ?_
      iterate 11 (refine Sk.want (by kernel_rfl) (fun K hK => ?_); go_simp; refine hK _ ?_; clear hK K)
      iterate 2 (refine Sk.skip (by kernel_rfl) ?_; (try simp only [Act.put, List.setIfInBounds_toArray, List.set_cons_zero, List.set_cons_succ]))
      refine Sk.nil ?_
      change wpList _ _ _ _ _ w2.drew
      iterate 2 (refine Sk.lskip (by kernel_rfl) ?_; (try simp only [Act.put, List.setIfInBounds_toArray, List.set_cons_zero, List.set_cons_succ]))
      go_wp2_with fail
      go_ret
      exact ⟨by rw [e1.out]; rfl, hb2.drew⟩
    have hb : (((0 : Int) : Int) == S.most) = false := by simpa using fun q => hf q.symm
    have Hf := Lib.hid hf
    clear hf
    refine wp_region_still_tail 13 (by kernel_rfl) (by kernel_rfl) ?_
    simp only [List.take_succ_cons, List.take_zero, List.drop_succ_cons, List.drop_zero]
    refine Sk.St.out ?_
    iterate 13 (refine Sk.want (by kernel_rfl) (fun K hK => ?_); go_simp; refine hK _ ?_; clear hK K)
    refine Sk.nil ?_
    change wpList _ _ _ _ _ w2.drew
    clear d5 d8
    by_cases hr : Room S row
    · have e1 := Lib.hid (HE.out.trans (er_ok HA.out hnl.out fun q => q.elim (fun q => Hf.out (Hm.out.2 q)) fun q => q hr))
      rw [tr_yes hr] at Cr
      clear hr
      refine Sk.lwant (by kernel_rfl) (fun K hK => ?_)
      go_wp2_with fail
      refine Cr.out.mono ?_
      rintro e w3 ⟨rfl, hB3⟩
      go_wp2_with fail
      go_ret
      exact ⟨by rw [e1.out]; rfl, hb2.drew.trans (hB3.mono hb2.size)⟩
    · have e1 := Lib.hid (HE.out.trans (er_full HA.out hnl.out (.inr hr)))
      rw [tr_no hr] at Cr
      clear hr
      refine Sk.lwant (by kernel_rfl) (fun K hK => ?_)
      go_wp2_with fail
      refine Cr.out.mono ?_
      rintro e w3 ⟨rfl, hB3⟩
      go_wp2_with fail
      go_ret
      exact ⟨by rw [e1.out]; rfl, hb2.drew.trans (hB3.mono hb2.size)⟩
  · have hz1 : 1 ≤ n2 := by omega
    obtain ⟨b2, o2, rfl, hb2lt, hcell⟩ := HS.out.rd.some_ (by rw [← Hn2.out]; exact hz1)
    have cl := hcell (n2 - 1) (by have := Hn2.out; omega)
    obtain ⟨z, hz⟩ : ∃ z, z = S.offs.getD (n2 - 1) 0 := ⟨_, rfl⟩
    rw [← hz] at cl
    have hi0 : (0 : Int) ≤ (n2 : Int) - 1 := by omega
    have hi1 : (n2 : Int) - 1 < (n2 : Int) := by omega
    have hi2 : ((n2 : Int) - 1).toNat = n2 - 1 := by omega
    have hi3 : (0 : Int) < (n2 : Int) := by omega
    have HLate := Lib.hid (show Late S off ↔ off ≤ z from ⟨fun q => by have := q.2; rw [← Hn2.out, ← hz] at this; exact this, fun q => ⟨fun e => by have := Hn2.out; rw [e] at this; simp at this; omega, by rw [← Hn2.out, ← hz]; exact q⟩⟩)
    have hd : decide (0 < n2) = true := decide_eq_true hz1
    clear hcell hz
    by_cases hL : off ≤ z
    · have e1 := Lib.hid (HE.out.trans (er_late HA.out (HLate.out.2 hL)))
      go_wp2_with fail
      go_quiet (fail)
      go_wp2_with fail
      go_ret
      exact ⟨by rw [e1.out]; rfl, Wd.below_drewN hB1 _⟩
    · have hnl : Hid (¬ Late S off) := Lib.hid fun q => hL (HLate.out.1 q)
      go_wp2_with fail
      go_quiet (fail)
      clear hi0 hi1 hi2 cl hd
      go_wp2_with fail
      have hb2 : Below w.heap.size w (w1'.drewN nq) := Wd.below_drewN hB1 _
      clear d5 d8
      generalize w1'.drewN nq = w2 at *
      obtain ⟨k1, k2, k3⟩ := Key.out _ hb2
      have d5 := k2.c.2.2.2.2.2.1
      have d8 := k2.c.2.2.2.2.2.2.2.2
      rw [Hov.out.1] at d8
      have K1 := Lib.hid k1
      have K3 := Lib.hid k3
      clear k1 k2 k3
      have hbd : Below w2.heap.size w2 w2.drew := (Below.refl _ _).drew
      have Cr := Lib.hid (room_any (K1.out.below hbd) Hok.out (K3.out.below hbd) HF.out)
      clear hbd
      by_cases hf : S.most = (n2 : Int)
      · have e1 := Lib.hid (HE.out.trans (er_full HA.out hnl.out (.inl (Hm.out.1 hf))))
        have hb : ((n2 : Int) == S.most) = true := by rw [hf]; simp
        clear hf
        refine wp_region_still_tail 13 (by kernel_rfl) (by kernel_rfl) ?_
        simp only [List.take_succ_cons, List.take_zero, List.drop_succ_cons, List.drop_zero]
        refine Sk.St.out ?_
        iterate 11 (refine Sk.want (by kernel_rfl) (fun K hK => ?_); go_simp; refine hK _ ?_; clear hK K)
        iterate 2 (refine Sk.skip (by kernel_rfl) ?_; (try simp only [Act.put, List.setIfInBounds_toArray, List.set_cons_zero, List.set_cons_succ]))
        refine Sk.nil ?_
        change wpList _ _ _ _ _ w2.drew
        iterate 2 (refine Sk.lskip (by kernel_rfl) ?_; (try simp only [Act.put, List.setIfInBounds_toArray, List.set_cons_zero, List.set_cons_succ]))
        go_wp2_with fail
        go_ret
        exact ⟨by rw [e1.out]; rfl, hb2.drew⟩
      have hb : ((n2 : Int) == S.most) = false := by simpa using fun q => hf q.symm
      have Hf := Lib.hid hf
      clear hf
      refine wp_region_still_tail 13 (by kernel_rfl) (by kernel_rfl) ?_
      simp only [List.take_succ_cons, List.take_zero, List.drop_succ_cons, List.drop_zero]
      refine Sk.St.out ?_
      iterate 13 (refine Sk.want (by kernel_rfl) (fun K hK => ?_); go_simp; refine hK _ ?_; clear hK K)
      refine Sk.nil ?_
      change wpList _ _ _ _ _ w2.drew
      clear d5 d8
      by_cases hr : Room S row
      · have e1 := Lib.hid (HE.out.trans (er_ok HA.out hnl.out fun q => q.elim (fun q => Hf.out (Hm.out.2 q)) fun q => q hr))
        rw [tr_yes hr] at Cr
        clear hr
        refine Sk.lwant (by kernel_rfl) (fun K hK => ?_)
        go_wp2_with fail
        refine Cr.out.mono ?_
        rintro e w3 ⟨rfl, hB3⟩
        go_wp2_with fail
        go_ret
        exact ⟨by rw [e1.out]; rfl, hb2.drew.trans (hB3.mono hb2.size)⟩
      · have e1 := Lib.hid (HE.out.trans (er_full HA.out hnl.out (.inr hr)))
        rw [tr_no hr] at Cr
        clear hr
        refine Sk.lwant (by kernel_rfl) (fun K hK => ?_)
        go_wp2_with fail
        refine Cr.out.mono ?_
        rintro e w3 ⟨rfl, hB3⟩
        go_wp2_with fail
        go_ret
        exact ⟨by rw [e1.out]; rfl, hb2.drew.trans (hB3.mono hb2.size)⟩
end Rw
end Go.Proofs.Ytfeolclpgilfdaa
