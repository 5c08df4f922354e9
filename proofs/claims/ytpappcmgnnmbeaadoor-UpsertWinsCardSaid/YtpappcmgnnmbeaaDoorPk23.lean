/- Package upsert: Add. -/
import Derived.Test.YtpappcmgnnmbeaaDoorPk21
import Derived.Test.YtpappcmgnnmbeaaDoorPk22
namespace Go.Proofs.YtpappcmgnnmbeaaDoor
set_option maxRecDepth 20000
open Go.RowKit Go.Maps
namespace Up
open Va (Vl)
open Sc (Sch FitS MayS tr tr_yes tr_no)
theorem Tbl.mono {w : World} {t : Nat} {s : Sch} {L : List Rw} {N M : Nat} {F : Nat → Prop} (h : Tbl w t s L N F) (hM : N ≤ M) : Tbl w t s L M F := by
  obtain ⟨A, n, c, bd, bw, bs, nd, nw, fd, fw, hl, r⟩ := h
  exact ⟨A, n, c, bd, bw, bs, nd, nw, fd, fw, hl.mono hM, r⟩
theorem vs_get {w : World} {R : Option Addr} {m d : Nat} {vs : List Vl} (hV : Wd.Vs w R m d vs) (j : Nat) : Wd.V1 (vs.getD j default) := by
  by_cases h : j < vs.length
  · obtain ⟨_, _, _, _, _, h1⟩ := hV.at_ j h
    exact h1
  · rw [List.getD_eq_getElem?_getD, List.getElem?_eq_none (by omega)]
    exact ⟨by decide, by decide⟩
theorem may_size {v : Vl} (h : Va.May v) : v.s.size ≤ maxLen := by
  unfold maxLen
  rcases h with q | q | q | q
  · rw [q.2.2.1]; exact Nat.zero_le _
  · rw [q.2.1]; exact Nat.zero_le _
  · have := q.2.2.1; omega
  · rw [q.2.2]; exact Nat.zero_le _
/-- A row that fits may be added. -/
theorem rw_ok {w : World} {R : Option Addr} {m d : Nat} {vs : List Vl} {s : Sch} (hV : Wd.Vs w R m d vs) (hF : FitS s vs) {seg doc off : Int} (hP : PlaceOk seg doc off) :
    PlaceOk (rw_ s vs seg doc off).seg (rw_ s vs seg doc off).doc (rw_ s vs seg doc off).off ∧ (Lit.int .i64 (rw_ s vs seg doc off).cmp).wf = true ∧ Wd.V1 (rw_ s vs seg doc off).key ∧ (rw_ s vs seg doc off).key.s.size ≤ maxLen := by
  obtain ⟨e1, e2, e3⟩ := rw_seg s vs seg doc off
  rw [e1, e2, e3]
  refine ⟨hP, ?_⟩
  unfold rw_
  split
  · exact ⟨wf_zero, ⟨wf_zero, wf_zero⟩, Nat.zero_le _⟩
  · rename_i hk
    refine ⟨(vs_get hV _).w1, vs_get hV _, ?_⟩
    obtain ⟨-, -, -, -, -, -, h7⟩ := hF.1
    rcases h7 with ⟨e, _⟩ | ⟨_, h8, _⟩
    · exact absurd e hk
    · obtain ⟨c, hc, _⟩ := h8.2
      have h9 := (List.getElem?_eq_some_iff.1 hc).1
      exact may_size (((Sc.fits_get _ _).1 hF.2).2 s.key.toNat h9).1.1
theorem docs_fun (L : List Rw) (r : Rw) : docsL (L ++ [r]) = fun x => if x = r.seg then Bs.withL (docsL L r.seg) r.doc else docsL L x := funext fun x => by
  rw [docsL_app]
  by_cases e : x = r.seg
  · rw [if_pos e, if_pos e.symm, e]
  · rw [if_neg e, if_neg (fun q => e q.symm)]
set_option maxHeartbeats 1000000 in
theorem add_any {w : World} {t : Nat} {s : Sch} {L : List Rw} {N : Nat} {F : Nat → Prop} (h : Tbl w t s L N F) {R : Option Addr} {m d : Nat} {vs : List Vl} (hV : Wd.Vs w R m d vs) (seg doc off : Int) (hN : N + 8 < maxLen) :
    Calls Tryd.prog 25 #[.pointer (some ⟨t, 0, none⟩), .slice R m d, .agg #[.int .i64 seg, .int .i64 doc], .int .i64 off] w fun e w' => e = .returned (.int .i64 (addE s L vs seg doc off)) ∧ Wd.Mv F w w' ∧
      ∃ F', Tbl w' t s (addL s L vs seg doc off) (N + 4) F' ∧ ∀ x, F' x → Wd.Gr F w w' x := by
  have hT := h
  obtain ⟨A, n, c, bd, bw, bs, nd, nw, fd, fw, hl, hO, hM, hn⟩ := h
  have same : ∀ {w' : World}, Below w.heap.size w w' → addE s L vs seg doc off ≠ 0 → Wd.Mv F w w' ∧ ∃ F', Tbl w' t s (addL s L vs seg doc off) (N + 4) F' ∧ ∀ x, F' x → Wd.Gr F w w' x := fun hb he => by
    refine ⟨Wd.Mv.of_below hb, F, ?_, fun x hx => .inl hx⟩
    unfold addL
    rw [if_neg he]
    exact (hT.below hb).mono (by omega)
  by_cases hA : FitS s vs ∧ PlaceOk seg doc off
  case neg =>
    have e : addE s L vs seg doc off = 1 := by unfold addE; rw [tr_no hA]; rfl
    refine (add_arg hl.box hl.sch hn hV seg doc off hA).mono ?_
    rintro x w' ⟨rfl, hb⟩
    exact ⟨by rw [e], same hb (by rw [e]; decide)⟩
  case pos =>
    have e0 : addE s L vs seg doc off = if tr (Here L seg doc ∨ Tie (kdS s) L (rw_ s vs seg doc off)) = true then 5 else 0 := by unfold addE; rw [tr_yes hA]; rfl
    have hdoc : 0 ≤ doc ∧ doc ≤ 65535 := ⟨hA.2.2.2.1, hA.2.2.2.2.1⟩
    by_cases hH : Here L seg doc
    case pos =>
      have e : addE s L vs seg doc off = 5 := by rw [e0, tr_yes (.inl hH)]; rfl
      refine (add_here hl hn hV hA.1 hA.2 (decide_eq_true ((here_docs hdoc).1 hH))).mono ?_
      rintro x w' ⟨rfl, hb⟩
      exact ⟨by rw [e], same hb (by rw [e]; decide)⟩
    case neg =>
      have hh : decide (doc ∈ docsL L seg) = false := decide_eq_false (fun q => hH ((here_docs hdoc).2 q))
      have hrok := rw_ok hV hA.1 hA.2
      obtain ⟨s1, s2, s3⟩ := rw_seg s vs seg doc off
      have hO2 : Okl (L ++ [rw_ s vs seg doc off]) := hO.app (by rw [s1, s2]; exact hH) hrok
      have hdf := docs_fun L (rw_ s vs seg doc off)
      rw [s1, s2] at hdf
      by_cases hk : s.key = -1
      case pos =>
        have hkd : kdS s = false := decide_eq_false (by simp [hk])
        have e : addE s L vs seg doc off = 0 := by
          rw [e0, tr_no]
          · rfl
          · rintro (q | ⟨b, q, _⟩)
            · exact hH q
            · rw [hkd] at q
              cases q
        refine (add_free hl hn hV hA.1 hA.2 hN hh hk).mono ?_
        rintro x w' ⟨rfl, mv, nd', fd', hl2⟩
        refine ⟨by rw [e], mv, F, ?_, fun x hx => .inl hx⟩
        unfold addL
        rw [if_pos e]
        refine ⟨A, n, c, bd, bw, bs, nd', nw, fd', fw, ?_, hO2, hM, hn⟩
        rw [hdf]
        have e1 : ∀ L2, win (kdS s) L2 = fun _ => none := fun L2 => by rw [hkd]; rfl
        have e2 : ∀ L2, keysN (kdS s) L2 = 0 := fun L2 => by rw [hkd]; rfl
        rw [e1, e2] at hl2 ⊢
        exact hl2.mono (by omega)
      case neg =>
        have hkd : kdS s = true := decide_eq_true hk
        by_cases hTi : Tie (kdS s) L (rw_ s vs seg doc off)
        case pos =>
          have e : addE s L vs seg doc off = 5 := by rw [e0, tr_yes (.inr hTi)]; rfl
          refine (add_tie hl hn hV hA.1 hA.2 hN (hO.segOk _) hh hk (v := (rw_ s vs seg doc off).key) (by unfold rw_; rw [if_neg hk]) rfl hTi).mono ?_
          rintro x w' ⟨rfl, mv, hl2⟩
          refine ⟨by rw [e], mv, F, ?_, fun x hx => .inl hx⟩
          unfold addL
          rw [if_neg (by rw [e]; decide)]
          exact ⟨A, n, c, bd, bw, bs, nd, nw, fd, fw, hl2.mono (by omega), hO, hM, hn⟩
        case neg =>
          have e : addE s L vs seg doc off = 0 := by
            rw [e0, tr_no]
            · rfl
            · rintro (q | q)
              · exact hH q
              · exact hTi q
          refine (add_win hl hn hV hA.1 hA.2 hN (hO.segOk _) hh hk (v := (rw_ s vs seg doc off).key) (by unfold rw_; rw [if_neg hk]) rfl hTi rfl).mono ?_
          rintro x w' ⟨rfl, mv, nd', nw', fd', fw', F', hl2, hg⟩
          refine ⟨by rw [e], mv, F', ?_, hg⟩
          unfold addL
          rw [if_pos e]
          refine ⟨A, n, c, bd, bw, bs, nd', nw', fd', fw', ?_, hO2, hM, hn⟩
          have e1 : comeW (win (kdS s) L) (rw_ s vs seg doc off).key (rw_ s vs seg doc off) = win (kdS s) (L ++ [rw_ s vs seg doc off]) := funext fun x => by
            rw [win_app]
            unfold comeW upd
            by_cases q : x = (rw_ s vs seg doc off).key
            · rw [if_pos q, if_pos ⟨hkd, q.symm⟩, q]
            · rw [if_neg q, if_neg (fun z => q z.2.symm)]
          have e2 : keysN (kdS s) (L ++ [rw_ s vs seg doc off]) = if (win (kdS s) L (rw_ s vs seg doc off).key).isSome then keysN (kdS s) L else keysN (kdS s) L + 1 := by
            rw [keysN_step]
            cases q : (win (kdS s) L (rw_ s vs seg doc off).key).isSome <;> simp [hkd]
          rw [hdf, e2, ← e1]
          exact hl2
end Up
end Go.Proofs.YtpappcmgnnmbeaaDoor
