/- The reference of layer 12: Build. -/
import Derived.StillTailTactics
import Derived.BigQuiet
import Derived.Test.YtaoeipehpakngaaGreatDoorPb41
import Derived.Test.YtaoeipehpakngaaGreatDoorPb28
import Derived.Test.YtaoeipehpakngaaGreatDoorPb34
import Derived.Test.YtaoeipehpakngaaGreatDoorPb20
namespace Go.Proofs.YtaoeipehpakngaaGreatDoor
set_option maxRecDepth 20000
open Go.RowKit Go.Maps
namespace Se
open Va (Vl May)
open Sc (Sch MayS FitS tr tr_yes tr_no tr_iff tr_congr)
open Sx (Sb five)
open Wd (Cr)
open Ssm (ns)
open Co (build)
def RiseK (x : Seg) (l : List Int) (k : Nat) : Prop := ∀ j, j < k → (x.st ≤ l.getD j 0 ∧ l.getD j 0 < x.en) ∧ (1 ≤ j → l.getD (j - 1) 0 < l.getD j 0)
theorem rise_of {hi : Int} : ∀ {l : List Int} {lo : Int}, (l ≠ [] → lo ≤ l.getD 0 0) → (∀ j, j < l.length → l.getD j 0 < hi) → (∀ j, 1 ≤ j → j < l.length → l.getD (j - 1) 0 < l.getD j 0) → Rise lo hi l
  | [], _, _, _, _ => trivial
  | o :: r, lo, h0, h1, h2 => by
    refine ⟨h0 (by simp), by have := h1 0 (by simp); simpa using this, rise_of (fun hr => ?_) (fun j hj => ?_) fun j hj1 hj => ?_⟩
    · have := h2 1 (Nat.le_refl _) (by cases r <;> simp_all)
      simp only [List.getD_cons_succ, List.getD_cons_zero, Nat.sub_self] at this
      have e : (o :: r).getD 1 0 = r.getD 0 0 := rfl
      omega
    · have := h1 (j + 1) (by simp; omega)
      exact this
    · have := h2 (j + 1) (by omega) (by simp; omega)
      obtain ⟨i, rfl⟩ : ∃ i, j = i + 1 := ⟨j - 1, by omega⟩
      exact this
theorem rise_all {x : Seg} {l : List Int} : Rise x.st x.en l ↔ RiseK x l l.length := by
  constructor
  · intro h j hj
    obtain ⟨h1, h2⟩ := rise_iff.1 h
    refine ⟨?_, fun hj1 => ?_⟩
    · rw [List.getD_eq_getElem?_getD, List.getElem?_eq_getElem hj]
      exact h2 _ (List.getElem_mem hj)
    · have := List.pairwise_iff_getElem.1 h1 (j - 1) j (by omega) hj (by omega)
      have hj' : j - 1 < l.length := by omega
      simpa [List.getD, hj, hj'] using this
  · intro h
    exact rise_of (fun hl => (h 0 (List.length_pos_iff.2 hl)).1.1) (fun j hj => (h j hj).1.2) fun j h1 hj => (h j hj).2 h1
theorem riseK_next {x : Seg} {l : List Int} {k : Nat} (h : RiseK x l k) (h1 : x.st ≤ l.getD k 0 ∧ l.getD k 0 < x.en) (h2 : 1 ≤ k → l.getD (k - 1) 0 < l.getD k 0) : RiseK x l (k + 1) := fun j hj => by
  by_cases z : j = k
  · rw [z]; exact ⟨h1, h2⟩
  · exact h j (by omega)
structure BJ (w6 w : World) (p : Nat) (x : Seg) (T : List Int) (k : Nat) : Prop where
  ex : ∃ V vc, Wd.Bx w p 28 #[.int .i64 x.part, .int .i64 x.id, .int .i64 x.st, .int .i64 x.en, .slice V k vc, .slice none 0 0] ∧ w.ownsRow w6.heap.size 3 1 (.slice V k vc) (T.take k).length ((T.take k).map (Value.int .i64))
  mv : Wd.Mv (fun g => g = p) w6 w
structure CJ (w7 w : World) (p : Nat) (x : Seg) (V : Option Addr) (m vc : Nat) (l : List (List Vl)) (o : List Nat) (k : Nat) : Prop where
  ex : ∃ KA kc L, L.length = k ∧ Wd.Bx w p 28 #[.int .i64 x.part, .int .i64 x.id, .int .i64 x.st, .int .i64 x.en, .slice V m vc, .slice KA k kc] ∧ Wd.OwC w w7.heap.size (.slice KA k kc) L ∧ ∀ j, j < k → Wd.Cr1 w (L.getD j default) ∧ (L.getD j default).C = (build (pick l o j)).1
  mv : Wd.Mv (fun g => g = p) w7 w
theorem CJ.below {w7 w w' : World} {p : Nat} {x : Seg} {V : Option Addr} {m vc : Nat} {l : List (List Vl)} {o : List Nat} {k : Nat} (h : CJ w7 w p x V m vc l o k) (hb : Below w.heap.size w w') : CJ w7 w' p x V m vc l o k := by
  obtain ⟨⟨KA, kc, L, h1, h2, h3, h4⟩, h5⟩ := h
  exact ⟨⟨KA, kc, L, h1, h2.below h2.lt hb, h3.below hb, fun j hj => ⟨(h4 j hj).1.below hb, (h4 j hj).2⟩⟩, h5.then (Wd.Mv.of_below hb)⟩
theorem seg_nos (a b c d : Int) (A : Option Addr) (n c' : Nat) (B : Option Addr) (m d' : Nat) : ∀ v ∈ [Value.int .i64 a, .int .i64 b, .int .i64 c, .int .i64 d, .slice A n c', .slice B m d'], ∀ x, v ≠ .string x := by
  intro v hv x
  simp only [List.mem_cons, List.not_mem_nil, or_false] at hv
  rcases hv with rfl | rfl | rfl | rfl | rfl | rfl <;> simp
theorem seg_no (a b c d : Int) (A : Option Addr) (n c' : Nat) (B : Option Addr) (m d' : Nat) : ∀ v ∈ [Value.int .i64 a, .int .i64 b, .int .i64 c, .int .i64 d, .slice A n c', .slice B m d'], ∀ x, v ≠ .int .u8 x := by
  intro v hv x
  simp only [List.mem_cons, List.not_mem_nil, or_false] at hv
  rcases hv with rfl | rfl | rfl | rfl | rfl | rfl <;> simp
theorem pick_next {l : List (List Vl)} {o : List Nat} {k j : Nat} (h : j < o.length) : (pick l o k).take (j + 1) = (pick l o k).take j ++ [(l.getD (o.getD j 0) []).getD k default] := by
  rw [List.take_succ_eq_append_getElem (by rw [pick_len]; exact h), ← pick_get h]
  congr 2
  simp [List.getD, pick_len, h]
theorem CJ.more {w7 w w1 : World} {p : Nat} {x : Seg} {V : Option Addr} {m vc : Nat} {l : List (List Vl)} {o : List Nat} {k : Nat} {KA KB : Option Addr} {kc kd : Nat} {L : List Cr} {y : Cr} (hp : p < w7.heap.size) (h1 : L.length = k) (h2 : Wd.Bx w p 28 #[.int .i64 x.part, .int .i64 x.id, .int .i64 x.st, .int .i64 x.en, .slice V m vc, .slice KA k kc]) (h3 : Wd.OwC w w7.heap.size (.slice KA k kc) L)
    (h4 : ∀ j, j < k → Wd.Cr1 w (L.getD j default) ∧ (L.getD j default).C = (build (pick l o j)).1) (h5 : Wd.Mv (fun g => g = p) w7 w) (hy : Wd.Cr1 w y) (hC : y.C = (build (pick l o k)).1) (g : w.grownBy w1 (Value.slice KA k kc).ownBlock) (h6 : Wd.OwC w1 w7.heap.size (.slice KB (L.length + 1) kd) (L ++ [y])) :
    CJ w7 (w1.setCell ⟨p, 5, none⟩ (.slice KB (k + 1) kd)) p x V m vc l o (k + 1) := by
  have hne : some p ≠ (Value.slice KA k kc).ownBlock := fun e => by have := (h3.block e.symm).1; omega
  have hb := h2.grown g hne
  have m1 := (Wd.Mv.refl (fun g => g = p) w1).set (a := ⟨p, 5, none⟩) rfl (.slice KB (k + 1) kd)
  have hcr : ∀ c : Cr, Wd.Cr1 w c → Wd.Cr1 (w1.setCell ⟨p, 5, none⟩ (.slice KB (k + 1) kd)) c := fun c hc => (hc.grown h3 g).keep m1 fun g e => by
    subst e
    exact ⟨_, _, hb, seg_nos _ _ _ _ _ _ _ _ _ _, seg_no _ _ _ _ _ _ _ _ _ _⟩
  rw [h1] at h6
  refine ⟨⟨KB, kd, L ++ [y], by simp [h1], by have := hb.set 5 (.slice KB (k + 1) kd); simpa using this, h6.keep m1 fun g e q => by have := (h6.block e).1; omega, fun j hj => ?_⟩, ?_⟩
  · by_cases z : j < k
    · rw [show (L ++ [y]).getD j default = L.getD j default by simp only [List.getD]; rw [List.getElem?_append_left (by omega)]]
      exact ⟨hcr _ (h4 j z).1, (h4 j z).2⟩
    · obtain rfl : j = k := by omega
      rw [show (L ++ [y]).getD j default = y by rw [← h1]; simp [List.getD]]
      exact ⟨hcr _ hy, hC⟩
  · refine (h5.trans (Wd.Mv.of_grown g fun g e => .inr ?_)).then m1
    have := (h3.block e).1
    obtain ⟨M, hM⟩ := (h3.block e).2
    exact ⟨this, hM.lt⟩
set_option maxHeartbeats 16000000 in
theorem refBuild_any (A : Option Addr) (n c : Nat) (s : Sch) (OA : Option Addr) (on oc : Nat) (CA : Option Addr) (cn cc : Nat) (xs : List Cr) (x : Seg) (R : Option Addr) (m d : Nat) (l : List (List Vl)) (Q : Option Addr) (q qc : Nat) (offs : List Int) (w : World)
    (hS : Wd.Cs w A n c s.cols) (hX : Sg w OA on oc CA cn cc xs x) (hL : Wd.Ls w R m d l) (hQ : Wd.Sl w .i64 Q q qc offs) (hf : Wd.Fits .i64 offs) (hn : n ≤ 1000000) (hm : m ≤ 1000000) :
    Calls Tryz.prog 14 #[.agg #[.slice A n c, .int .i64 s.key, .int .i64 s.cmp, .int .i64 s.del, .int .i64 s.sort], .agg #[.int .i64 x.part, .int .i64 x.id, .int .i64 x.st, .int .i64 x.en, .slice OA on oc, .slice CA cn cc], .slice R m d, .slice Q q qc] w (OutBd w (bld s x l offs)) := by
  obtain ⟨w1, hw1⟩ : ∃ w1, w1 = ((w.alloc (.cells #[.slice A n c, .int .i64 s.key, .int .i64 s.cmp, .int .i64 s.del, .int .i64 s.sort] 24)).alloc (.cells #[.int .i64 x.part, .int .i64 x.id, .int .i64 x.st, .int .i64 x.en, .slice OA on oc, .slice CA cn cc] 28)).alloc (.cells #[.int .i64 0, .int .i64 0, .int .i64 0, .int .i64 0, .slice none 0 0, .slice none 0 0] 28) := ⟨_, rfl⟩
  have hB1 : Bs w w1 A n c s OA on oc CA cn cc x := by
    have z1 : (w.alloc (.cells #[.slice A n c, .int .i64 s.key, .int .i64 s.cmp, .int .i64 s.del, .int .i64 s.sort] 24)).heap.size = w.heap.size + 1 := by simp
    have z2 : ((w.alloc (.cells #[.slice A n c, .int .i64 s.key, .int .i64 s.cmp, .int .i64 s.del, .int .i64 s.sort] 24)).alloc (.cells #[.int .i64 x.part, .int .i64 x.id, .int .i64 x.st, .int .i64 x.en, .slice OA on oc, .slice CA cn cc] 28)).heap.size = w.heap.size + 1 + 1 := by simp
    have g1 := Gb.new (w.alloc (.cells #[.slice A n c, .int .i64 s.key, .int .i64 s.cmp, .int .i64 s.del, .int .i64 s.sort] 24)) x.part x.id x.st x.en OA on oc CA cn cc
    have g2 := Gb.new ((w.alloc (.cells #[.slice A n c, .int .i64 s.key, .int .i64 s.cmp, .int .i64 s.del, .int .i64 s.sort] 24)).alloc (.cells #[.int .i64 x.part, .int .i64 x.id, .int .i64 x.st, .int .i64 x.en, .slice OA on oc, .slice CA cn cc] 28)) 0 0 0 0 none 0 0 none 0 0
    rw [z1] at g1
    rw [z2] at g2
    rw [hw1]
    exact ⟨((Wd.Bx.new w _ _).alloc _).alloc _, g1.alloc _, g2, (((Below.refl _ _).alloc (Nat.le_refl _) _).alloc (by simp) _).alloc (by simp; omega) _, by simp⟩
  have Hw1 := Lib.hid hw1
  have HB1 := Lib.hid hB1
  have HS := Lib.hid hS
  have HX := Lib.hid hX
  have HL := Lib.hid hL
  have HQ := Lib.hid hQ
  have Hm := Lib.hid hL.len
  have Hq := Lib.hid hQ.len
  have Hf := Lib.hid hf
  have hqcap := hQ.cap
  have hqmax := hQ.max
  have hlcap := hL.cap
  have hlmax := hL.max
  unfold maxLen at hqmax hlmax
  have Cf := Lib.hid (refFit_any A n c s R m d l w1 (hS.below hB1.b) (hL.below hB1.b) hn hm)
  obtain ⟨r, hr⟩ : ∃ r, r = bld s x l offs := ⟨_, rfl⟩
  rw [← hr]
  have Hbad := Lib.hid (fun (h : ¬ Arg s x l offs) => (by rw [hr]; exact bld_bad h : r = (zero, [], 1)))
  have Hr := Lib.hid hr
  obtain ⟨c0, c1, c2, c3, c4⟩ := five hB1.s
  clear hw1 hB1 hS hX hL hQ hr hf
  go_enter Tryz.func14, Tryz.ntmps14
  go_upto_region 1 with fail
  rw [← Hw1.out]
  obtain ⟨fv, hfv⟩ : ∃ fv, fv = tr (Fit s l) := ⟨_, rfl⟩
  rw [← hfv] at Cf
  have Hfv := Lib.hid hfv
  clear hfv
  go_wp2_with fail
  refine Cf.out.mono ?_
  rintro e w2 ⟨rfl, hB2⟩
  have H2 := Lib.hid (HB1.out.below hB2)
  obtain ⟨d0, d1, d2, d3, d4, d5⟩ := Gb.six H2.out.x
  have Ch := Lib.hid (refHead_any OA on oc CA cn cc x w2)
  obtain ⟨hv, hhv⟩ : ∃ hv, hv = tr (Head x) := ⟨_, rfl⟩
  rw [← hhv] at Ch
  have Hhv := Lib.hid hhv
  clear hhv hB2 c0 c1 c2 c3 c4 Cf
  go_wp2_with fail
  refine Ch.out.mono ?_
  rintro e w3 ⟨rfl, hB3⟩
  have H3 := Lib.hid (H2.out.below hB3)
  clear hB3 d0 d1 d2 d3 d4 d5 Ch
  cases fv
  case false =>
    have hr1 := Lib.hid (Hbad.out fun z => by have := Hfv.out; rw [tr_yes z.1] at this; cases this)
    obtain ⟨u0, u1, u2, u3, u4, u5⟩ := Gb.six H3.out.r
    have f0 := H3.out.r.free 0
    have f1 := H3.out.r.free 1
    have f2 := H3.out.r.free 2
    have f3 := H3.out.r.free 3
    have f4 := H3.out.r.free 4
    have f5 := H3.out.r.free 5
    have K6 := Lib.hid (box6 (x0 := .int .i64 0) (x1 := .int .i64 0) (x2 := .int .i64 0) (x3 := .int .i64 0) (x4 := .slice none 0 0) (x5 := .slice none 0 0) H3.out.r)
    have B6 := Lib.hid (below6 H3.out.b (p := w.heap.size + 1 + 1) (by omega) (.int .i64 0) (.int .i64 0) (.int .i64 0) (.int .i64 0) (.slice none 0 0) (.slice none 0 0))
    go_wp2_with fail
    have g0 := K6.out.cell 0
    have g1 := K6.out.cell 1
    have g2 := K6.out.cell 2
    have g3 := K6.out.cell 3
    have g4 := K6.out.cell 4
    have g5 := K6.out.cell 5
    refine bodyPost_ret (v := .tuple #[.agg #[.int .i64 0, .int .i64 0, .int .i64 0, .int .i64 0, .slice none 0 0, .slice none 0 0], .slice none 0 0, .int .i64 1]) ?_ rfl (by rw [hr1.out]; exact ⟨none, 0, 0, none, 0, 0, [], none, 0, 0, rfl, Sg.none_ _, Wd.Sl.none_ _ _, B6.out⟩)
    rw [Vc.res_cell3 rfl]; go_simp
  cases hv
  case false =>
    have hr1 := Lib.hid (Hbad.out fun z => by have := Hhv.out; rw [tr_yes z.2.1] at this; cases this)
    obtain ⟨u0, u1, u2, u3, u4, u5⟩ := Gb.six H3.out.r
    have f0 := H3.out.r.free 0
    have f1 := H3.out.r.free 1
    have f2 := H3.out.r.free 2
    have f3 := H3.out.r.free 3
    have f4 := H3.out.r.free 4
    have f5 := H3.out.r.free 5
    have K6 := Lib.hid (box6 (x0 := .int .i64 0) (x1 := .int .i64 0) (x2 := .int .i64 0) (x3 := .int .i64 0) (x4 := .slice none 0 0) (x5 := .slice none 0 0) H3.out.r)
    have B6 := Lib.hid (below6 H3.out.b (p := w.heap.size + 1 + 1) (by omega) (.int .i64 0) (.int .i64 0) (.int .i64 0) (.int .i64 0) (.slice none 0 0) (.slice none 0 0))
    go_wp2_with fail
    have g0 := K6.out.cell 0
    have g1 := K6.out.cell 1
    have g2 := K6.out.cell 2
    have g3 := K6.out.cell 3
    have g4 := K6.out.cell 4
    have g5 := K6.out.cell 5
    refine bodyPost_ret (v := .tuple #[.agg #[.int .i64 0, .int .i64 0, .int .i64 0, .int .i64 0, .slice none 0 0, .slice none 0 0], .slice none 0 0, .int .i64 1]) ?_ rfl (by rw [hr1.out]; exact ⟨none, 0, 0, none, 0, 0, [], none, 0, 0, rfl, Sg.none_ _, Wd.Sl.none_ _ _, B6.out⟩)
    rw [Vc.res_cell3 rfl]; go_simp
  have P1 := Lib.hid ((tr_iff (p := Fit s l)).1 Hfv.out.symm)
  have P2 := Lib.hid ((tr_iff (p := Head x)).1 Hhv.out.symm)
  clear Hfv Hhv
  by_cases h3 : q = m
  case neg =>
    have q3 : ((q : Int) != (m : Int)) = true := by simp; omega
    have hr1 := Lib.hid (Hbad.out fun z => h3 (by have := z.2.2.1; rw [Hq.out, Hm.out]; exact this))
    clear h3
    obtain ⟨u0, u1, u2, u3, u4, u5⟩ := Gb.six H3.out.r
    have f0 := H3.out.r.free 0
    have f1 := H3.out.r.free 1
    have f2 := H3.out.r.free 2
    have f3 := H3.out.r.free 3
    have f4 := H3.out.r.free 4
    have f5 := H3.out.r.free 5
    have K6 := Lib.hid (box6 (x0 := .int .i64 0) (x1 := .int .i64 0) (x2 := .int .i64 0) (x3 := .int .i64 0) (x4 := .slice none 0 0) (x5 := .slice none 0 0) H3.out.r)
    have B6 := Lib.hid (below6 H3.out.b (p := w.heap.size + 1 + 1) (by omega) (.int .i64 0) (.int .i64 0) (.int .i64 0) (.int .i64 0) (.slice none 0 0) (.slice none 0 0))
    go_wp2_with fail
    have g0 := K6.out.cell 0
    have g1 := K6.out.cell 1
    have g2 := K6.out.cell 2
    have g3 := K6.out.cell 3
    have g4 := K6.out.cell 4
    have g5 := K6.out.cell 5
    refine bodyPost_ret (v := .tuple #[.agg #[.int .i64 0, .int .i64 0, .int .i64 0, .int .i64 0, .slice none 0 0, .slice none 0 0], .slice none 0 0, .int .i64 1]) ?_ rfl (by rw [hr1.out]; exact ⟨none, 0, 0, none, 0, 0, [], none, 0, 0, rfl, Sg.none_ _, Wd.Sl.none_ _ _, B6.out⟩)
    rw [Vc.res_cell3 rfl]; go_simp
  have q3 : ((q : Int) != (m : Int)) = false := by simp; omega
  subst h3
  go_wp2_with fail
  clear q3
  go_loopw [13] (fun i wr => ∃ k : Nat, i = .int .i64 k ∧ k ≤ q ∧ Hid (RiseK x offs k ∧ Bs w wr A n c s OA on oc CA cn cc x)) (fun i _ => q - (intOf i).toNat)
  case atStart => exact ⟨0, rfl, Nat.zero_le _, Lib.hid ⟨fun j h => by omega, H3.out⟩⟩
  case round =>
    obtain ⟨k, rfl, hk, hI⟩ := hrel
    by_cases hltk : k < q
    · have hkI : (k : Int) < (q : Int) := by omega
      have hko : k < offs.length := by rw [← Hq.out]; exact hltk
      obtain ⟨-, -, d2, d3, -, -⟩ := Gb.six hI.out.2.x
      obtain ⟨ob, of, hO, _, o1⟩ := (HQ.out.below hI.out.2.b).rd k hko
      subst hO
      have hat := fun (z : Arg s x l offs) => (rise_all.1 z.2.2.2) k (by rw [← Hq.out]; exact hltk)
      obtain ⟨y, hy⟩ : ∃ y, y = offs.getD k 0 := ⟨_, rfl⟩
      rw [← hy] at o1 hat
      have Hat := Lib.hid hat
      have HI := Lib.hid hI.out
      have Hy := Lib.hid hy
      clear hat hI hko hy
      by_cases r1 : y < x.st
      · have e1 : decide (y < x.st) = true := decide_eq_true r1
        have hr1 := Lib.hid (Hbad.out fun z => by have := (Hat.out z).1.1; omega)
        clear r1
        go_wp2_with fail
        go_quiet (fail)
        have H4 := Lib.hid (HI.out.2.below (Wd.below_drewN (Below.refl _ _) nq))
        generalize wr.drewN nq = w4 at *
        obtain ⟨u0, u1, u2, u3, u4, u5⟩ := Gb.six H4.out.r
        have f0 := H4.out.r.free 0
        have f1 := H4.out.r.free 1
        have f2 := H4.out.r.free 2
        have f3 := H4.out.r.free 3
        have f4 := H4.out.r.free 4
        have f5 := H4.out.r.free 5
        have K6 := Lib.hid (box6 (x0 := .int .i64 0) (x1 := .int .i64 0) (x2 := .int .i64 0) (x3 := .int .i64 0) (x4 := .slice none 0 0) (x5 := .slice none 0 0) H4.out.r)
        have B6 := Lib.hid (below6 H4.out.b (p := w.heap.size + 1 + 1) (by omega) (.int .i64 0) (.int .i64 0) (.int .i64 0) (.int .i64 0) (.slice none 0 0) (.slice none 0 0))
        go_wp2_with fail
        have g0 := K6.out.cell 0
        have g1 := K6.out.cell 1
        have g2 := K6.out.cell 2
        have g3 := K6.out.cell 3
        have g4 := K6.out.cell 4
        have g5 := K6.out.cell 5
        refine bodyPost_ret (v := .tuple #[.agg #[.int .i64 0, .int .i64 0, .int .i64 0, .int .i64 0, .slice none 0 0, .slice none 0 0], .slice none 0 0, .int .i64 1]) ?_ rfl (by rw [hr1.out]; exact ⟨none, 0, 0, none, 0, 0, [], none, 0, 0, rfl, Sg.none_ _, Wd.Sl.none_ _ _, B6.out⟩)
        rw [Vc.res_cell3 rfl]; go_simp
      have e1 : decide (y < x.st) = false := decide_eq_false r1
      by_cases r2 : x.en ≤ y
      · have e2 : decide (x.en ≤ y) = true := decide_eq_true r2
        have hr1 := Lib.hid (Hbad.out fun z => by have := (Hat.out z).1.2; omega)
        have R1 := Lib.hid r1
        clear r1 r2
        go_wp2_with fail
        go_quiet (fail)
        have H4 := Lib.hid (HI.out.2.below (Wd.below_drewN (Below.refl _ _) nq))
        generalize wr.drewN nq = w4 at *
        obtain ⟨u0, u1, u2, u3, u4, u5⟩ := Gb.six H4.out.r
        have f0 := H4.out.r.free 0
        have f1 := H4.out.r.free 1
        have f2 := H4.out.r.free 2
        have f3 := H4.out.r.free 3
        have f4 := H4.out.r.free 4
        have f5 := H4.out.r.free 5
        have K6 := Lib.hid (box6 (x0 := .int .i64 0) (x1 := .int .i64 0) (x2 := .int .i64 0) (x3 := .int .i64 0) (x4 := .slice none 0 0) (x5 := .slice none 0 0) H4.out.r)
        have B6 := Lib.hid (below6 H4.out.b (p := w.heap.size + 1 + 1) (by omega) (.int .i64 0) (.int .i64 0) (.int .i64 0) (.int .i64 0) (.slice none 0 0) (.slice none 0 0))
        go_wp2_with fail
        have g0 := K6.out.cell 0
        have g1 := K6.out.cell 1
        have g2 := K6.out.cell 2
        have g3 := K6.out.cell 3
        have g4 := K6.out.cell 4
        have g5 := K6.out.cell 5
        refine bodyPost_ret (v := .tuple #[.agg #[.int .i64 0, .int .i64 0, .int .i64 0, .int .i64 0, .slice none 0 0, .slice none 0 0], .slice none 0 0, .int .i64 1]) ?_ rfl (by rw [hr1.out]; exact ⟨none, 0, 0, none, 0, 0, [], none, 0, 0, rfl, Sg.none_ _, Wd.Sl.none_ _ _, B6.out⟩)
        rw [Vc.res_cell3 rfl]; go_simp
      have e2 : decide (x.en ≤ y) = false := decide_eq_false r2
      have R1 := Lib.hid (show x.st ≤ y ∧ y < x.en by omega)
      clear r1 r2
      by_cases k0 : k = 0
      · subst k0
        have e3 : decide ((0 : Int) < ((0 : Nat) : Int)) = false := by decide
        have J := Lib.hid (riseK_next HI.out.1 (by rw [← Hy.out]; exact R1.out) fun z => by omega)
        rw [Nat.add_zero] at o1
        go_wp2_with fail
        go_quiet (fail)
        go_wp2_with fail
        go_roundw
        case rel => exact ⟨1, by go_num, by omega, Lib.hid ⟨J.out, HI.out.2.below (Wd.below_drewN (Below.refl _ _) _)⟩⟩
        case measure => simp [intOf]; omega
      · obtain ⟨kp, hkp⟩ : ∃ z, z + 1 = k := ⟨k - 1, by omega⟩
        have e3 : decide ((0 : Int) < (k : Int)) = true := decide_eq_true (by omega)
        have e3' : decide (0 < k) = true := decide_eq_true (by omega)
        have zk : (k : Int) - 1 = (kp : Int) := by omega
        have rk : IntKind.i64.wrap (kp : Int) = (kp : Int) := by rw [IntKind.wrap_i64]; omega
        have kpI : (kp : Int) < (q : Int) := by omega
        obtain ⟨_, _, e4, _, o2⟩ := (HQ.out.below HI.out.2.b).rd kp (by have := Hq.out; omega)
        cases e4
        have hkk : k - 1 = kp := by omega
        have Hat2 := Lib.hid (fun z => (Hat.out z).2 (by omega))
        rw [hkk] at Hat2
        obtain ⟨y0, hy0⟩ : ∃ y0, y0 = offs.getD kp 0 := ⟨_, rfl⟩
        rw [← hy0] at o2 Hat2
        have Hy0 := Lib.hid hy0
        clear hy0 hkp Hat
        by_cases r4 : y ≤ y0
        · have e4 : decide (y ≤ y0) = true := decide_eq_true r4
          have hr1 := Lib.hid (Hbad.out fun z => by have := Hat2.out z; omega)
          clear r4 hkk
          go_wp2_with fail
          go_quiet (fail)
          have H4 := Lib.hid (HI.out.2.below (Wd.below_drewN (Below.refl _ _) nq))
          generalize wr.drewN nq = w4 at *
          obtain ⟨u0, u1, u2, u3, u4, u5⟩ := Gb.six H4.out.r
          have f0 := H4.out.r.free 0
          have f1 := H4.out.r.free 1
          have f2 := H4.out.r.free 2
          have f3 := H4.out.r.free 3
          have f4 := H4.out.r.free 4
          have f5 := H4.out.r.free 5
          have K6 := Lib.hid (box6 (x0 := .int .i64 0) (x1 := .int .i64 0) (x2 := .int .i64 0) (x3 := .int .i64 0) (x4 := .slice none 0 0) (x5 := .slice none 0 0) H4.out.r)
          have B6 := Lib.hid (below6 H4.out.b (p := w.heap.size + 1 + 1) (by omega) (.int .i64 0) (.int .i64 0) (.int .i64 0) (.int .i64 0) (.slice none 0 0) (.slice none 0 0))
          go_wp2_with fail
          have g0 := K6.out.cell 0
          have g1 := K6.out.cell 1
          have g2 := K6.out.cell 2
          have g3 := K6.out.cell 3
          have g4 := K6.out.cell 4
          have g5 := K6.out.cell 5
          refine bodyPost_ret (v := .tuple #[.agg #[.int .i64 0, .int .i64 0, .int .i64 0, .int .i64 0, .slice none 0 0, .slice none 0 0], .slice none 0 0, .int .i64 1]) ?_ rfl (by rw [hr1.out]; exact ⟨none, 0, 0, none, 0, 0, [], none, 0, 0, rfl, Sg.none_ _, Wd.Sl.none_ _ _, B6.out⟩)
          rw [Vc.res_cell3 rfl]; go_simp
        · have e4 : decide (y ≤ y0) = false := decide_eq_false r4
          have J := Lib.hid (riseK_next HI.out.1 (by rw [← Hy.out]; exact R1.out) fun _ => by rw [hkk, ← Hy0.out, ← Hy.out]; omega)
          clear r4 hkk
          go_wp2_with fail
          go_quiet (fail)
          go_wp2_with fail
          go_roundw
          case rel => exact ⟨k + 1, by go_num, by omega, Lib.hid ⟨J.out, HI.out.2.below (Wd.below_drewN (Below.refl _ _) _)⟩⟩
          case measure => simp [intOf]; omega
    · obtain rfl : k = q := by omega
      have hkI : ¬ (k : Int) < (k : Int) := by omega
      have PA := Lib.hid (show Arg s x l offs from ⟨P1.out, P2.out, by rw [← Hq.out, ← Hm.out], rise_all.2 (by rw [← Hq.out]; exact hI.out.1)⟩)
      have H4 := Lib.hid hI.out.2
      clear hI
      by_cases hlong : 4096 < k
      · have q1 : (4096 : Int) < (k : Int) := by omega
        have hr1 := Lib.hid (show r = (zero, [], 2) by rw [Hr.out]; exact bld_long PA.out (by rw [← Hm.out]; exact hlong))
        obtain ⟨u0, u1, u2, u3, u4, u5⟩ := Gb.six H4.out.r
        have f0 := H4.out.r.free 0
        have f1 := H4.out.r.free 1
        have f2 := H4.out.r.free 2
        have f3 := H4.out.r.free 3
        have f4 := H4.out.r.free 4
        have f5 := H4.out.r.free 5
        have K6 := Lib.hid (box6 (x0 := .int .i64 0) (x1 := .int .i64 0) (x2 := .int .i64 0) (x3 := .int .i64 0) (x4 := .slice none 0 0) (x5 := .slice none 0 0) H4.out.r)
        have B6 := Lib.hid (below6 H4.out.b (p := w.heap.size + 1 + 1) (by omega) (.int .i64 0) (.int .i64 0) (.int .i64 0) (.int .i64 0) (.slice none 0 0) (.slice none 0 0))
        go_wp2_with fail
        have g0 := K6.out.cell 0
        have g1 := K6.out.cell 1
        have g2 := K6.out.cell 2
        have g3 := K6.out.cell 3
        have g4 := K6.out.cell 4
        have g5 := K6.out.cell 5
        refine bodyPost_ret (v := .tuple #[.agg #[.int .i64 0, .int .i64 0, .int .i64 0, .int .i64 0, .slice none 0 0, .slice none 0 0], .slice none 0 0, .int .i64 2]) ?_ rfl (by rw [hr1.out]; exact ⟨none, 0, 0, none, 0, 0, [], none, 0, 0, rfl, Sg.none_ _, Wd.Sl.none_ _ _, B6.out⟩)
        rw [Vc.res_cell3 rfl]; go_simp
      have q1 : ¬ (4096 : Int) < (k : Int) := by omega
      have hm4 : k ≤ 4096 := by omega
      have hr1 := Lib.hid (show r = (sealed s x l offs, arr s l, 0) by rw [Hr.out]; exact bld_ok PA.out (by rw [← Hm.out]; exact hm4))
      clear hlong
      obtain ⟨d0, d1, d2, d3, -, -⟩ := Gb.six H4.out.x
      go_upto_region 12 with fail
      obtain ⟨p, hp⟩ : ∃ p, p = wr.heap.size := ⟨_, rfl⟩
      have hwp := H4.out.b.size
      go_upto_region 13 with fail
      have hbz := Wd.Bx.new wr 28 #[.int .i64 x.part, .int .i64 x.id, .int .i64 x.st, .int .i64 x.en, .slice none 0 0, .slice none 0 0]
      rw [← hp] at hbz ⊢
      obtain ⟨w5, hw5⟩ : ∃ w5, w5 = wr.alloc (.cells #[.int .i64 x.part, .int .i64 x.id, .int .i64 x.st, .int .i64 x.en, .slice none 0 0, .slice none 0 0] 28) := ⟨_, rfl⟩
      have hB5 : Below wr.heap.size wr w5 := by rw [hw5]; exact (Below.refl _ _).alloc (Nat.le_refl _) _
      rw [← hw5] at hbz ⊢
      have K6 := Lib.hid hbz
      have H5 := Lib.hid (H4.out.below hB5)
      have hpz : w.heap.size + 1 + 1 < p := by rw [hp]; exact H4.out.z
      clear hw5 hB5 hbz d0 d1 d2 d3 hp hwp
      obtain ⟨c0, c1, c2, c3, c4⟩ := five H5.out.s
      have Hmay := Lib.hid (show ∀ r ∈ l, ∀ v ∈ r, May v from fun r hr v hv => by
        obtain ⟨j, hj, rfl⟩ := List.getElem_of_mem hv
        have h3 := (Sc.fits_get _ _).1 (P1.out.2 r hr).2
        have := (h3.2 j (by omega)).1.1
        simpa [List.getD, List.getElem?_eq_getElem hj] using this)
      have Co := Lib.hid (refOrder_new A n c s R k d l w5 (HS.out.below H5.out.b) (HL.out.below H5.out.b) hn hm fun r hr v hv => may_size (Hmay.out r hr v hv))
      rw [order_yes P1.out] at Co
      go_wp2_with fail
      refine Co.out.mono ?_
      rintro e w6 ⟨QA, qn, qc2, rfl, hS6, hB6, hN6⟩
      have H6 := Lib.hid (H5.out.below hB6)
      have hqn : qn = k := by have := hS6.len; rw [Ssm.ns_len, arr_len, ← Hm.out] at this; exact this
      subst hqn
      have HS6 := Lib.hid hS6
      have hp5 : p < w5.heap.size := K6.out.lt
      have hp6 : p < w6.heap.size := Nat.lt_of_lt_of_le hp5 hB6.size
      have HN6 := Lib.hid (show ∀ a, QA = some a → p < a.block from fun a ha => Nat.lt_of_lt_of_le hp5 (hN6 a ha))
      have hocap := hS6.cap
      have homax := hS6.max
      unfold maxLen at homax
      obtain ⟨T, hT⟩ : ∃ T, T = offsOf offs (arr s l) := ⟨_, rfl⟩
      have hTl : T.length = qn := by rw [hT, offsOf, List.length_map, arr_len, ← Hm.out]
      have I0 := Lib.hid (show BJ w6 w6 p x T 0 from ⟨⟨none, 0, K6.out.below K6.out.lt hB6, by simpa using World.ownsRow_nil _ _ _ _⟩, Wd.Mv.refl _ _⟩)
      have HT := Lib.hid hT
      have HTl := Lib.hid hTl
      clear hS6 hB6 hN6 hT hTl K6 c0 c1 c2 c3 c4 Co
      obtain ⟨i0, hi, hz0, hz1, hz2⟩ := info_parts Dx.info_i
      go_wp2_with fail
      go_loopw [16] (fun i wr => ∃ k : Nat, i = .int .i64 k ∧ k ≤ qn ∧ Hid (BJ w6 wr p x T k)) (fun i _ => qn - (intOf i).toNat)
      case atStart => exact ⟨0, rfl, Nat.zero_le _, I0⟩
      case round =>
        clear I0
        obtain ⟨k, rfl, hk, hI⟩ := hrel
        by_cases hlt : k < qn
        · have hkI : (k : Int) < (qn : Int) := by omega
          obtain ⟨V, vc, hbx, hown⟩ := hI.out.ex
          have hmv := hI.out.mv
          have hbel : Below w.heap.size w wr := H6.out.b.trans (hmv.below (by rintro g rfl; omega) H6.out.b.size)
          have hkl : k < (arr s l).length := by rw [arr_len, ← Hm.out]; exact hlt
          obtain ⟨ob, oo, hOA, _, oc0⟩ := (HS6.out.keep hmv fun a ha _ e => by have := HN6.out a ha; omega).rd k (by rw [Ssm.ns_len]; exact hkl)
          rw [Ssm.ns_get] at oc0
          have hyl : (arr s l).getD k 0 < offs.length := by
            rw [PA.out.2.2.1]
            refine (arr_mem s l).1 ?_
            rw [List.getD_eq_getElem?_getD, List.getElem?_eq_getElem hkl]
            exact List.getElem_mem hkl
          have hTk : T.take (k + 1) = T.take k ++ [offs.getD ((arr s l).getD k 0) 0] := by
            have hk1 : k < T.length := by rw [HTl.out]; exact hlt
            rw [List.take_succ_eq_append_getElem hk1]
            congr 2
            have e1 : T[k] = T.getD k 0 := by simp [List.getD, hk1]
            rw [e1, HT.out, offsOf, List.getD_eq_getElem?_getD, List.getElem?_map, List.getElem?_eq_getElem hkl, List.getD_eq_getElem?_getD (l := arr s l), List.getElem?_eq_getElem hkl]
            rfl
          obtain ⟨y, hy⟩ : ∃ y, y = (arr s l).getD k 0 := ⟨_, rfl⟩
          rw [← hy] at oc0 hyl hTk
          obtain ⟨qb, qo, hQA, _, qc0⟩ := (HQ.out.below hbel).rd y hyl
          subst hOA hQA
          have yq : (y : Int) < (qn : Int) := by have := Hq.out; omega
          obtain ⟨z, hz⟩ : ∃ z, z = offs.getD y 0 := ⟨_, rfl⟩
          rw [← hz] at qc0 hTk
          have b4 := hbx.cell 4
          have hplt := hbx.lt
          have hsz := hmv.size
          have hO5 : (wr.drew.alloc (.cells #[.int .i64 z] 3)).ownsRow w6.heap.size 3 1 (.slice V k vc) (T.take k).length ((T.take k).map (Value.int .i64)) := hown.drew.alloc _
          have hb5 : Wd.Bx (wr.drew.alloc (.cells #[.int .i64 z] 3)) p 28 #[.int .i64 x.part, .int .i64 x.id, .int .i64 x.st, .int .i64 x.en, .slice V k vc, .slice none 0 0] := hbx.drew.alloc _
          have hl5 : Wd.Mv (fun g => g = p) w6 (wr.drew.alloc (.cells #[.int .i64 z] 3)) := hmv.drew.alloc _
          have hR5 : Wd.Rd (wr.drew.alloc (.cells #[.int .i64 z] 3)) (wr.drew.heap.size + 1) .i64 (some ⟨wr.drew.heap.size, 0, none⟩) [z] := Wd.Rd.lit wr.drew .i64 [z] 3 _ rfl
          have hz5 : w6.heap.size ≤ (wr.drew.alloc (.cells #[.int .i64 z] 3)).heap.size := hl5.size
          have htl : (T.take k).length ≤ 1000000 := by rw [List.length_take]; omega
          have htk1 : (T.take k ++ [z]).length = k + 1 := by rw [List.length_append, List.length_take, List.length_singleton]; have := HTl.out; omega
          have Hz := Lib.hid hz
          have HTk := Lib.hid hTk
          clear hy hz hTk hown hbx hmv hbel hkl hyl hI
          go_wp2_with fail
          go_region_law (refine Wd.step_app _ rfl (.tmp 103) (.tmp 111) 25 rfl w6.heap.size 3 i0 _ .i64 8 Tryz.underlying25 hi hz0 hz1 hz2 rfl (.slice V k vc) (T.take k) rfl hO5 (wr.drew.heap.size + 1) (some ⟨wr.drew.heap.size, 0, none⟩) 1 1 [z] rfl rfl (by simp) hR5 (by simp only [List.length_singleton]; omega) (by simp only [List.length_singleton]; unfold maxLen; omega) hz5 ?_; intro v7 w7 hO7 hg7; obtain ⟨A7, cc7, rfl⟩ := Wd.own_slice hO7 htk1; have hb7 := hb5.grown hg7 (hb5.apart hO5 (by decide)); have c7 := hb7.cell 4; have f7 := hb7.free 4; have hl7 : Wd.Mv (fun g => g = p) w6 w7 := hl5.trans (Wd.Mv.of_grown hg7 fun g hg => .inr (by have := (Wd.own_lt hO5 hg).2.1; have := (Wd.own_lt hO5 hg).1; omega)))
          all_goals (
            have I7 : Hid (BJ w6 (w7.setCell ⟨p, 4, none⟩ (.slice A7 (k + 1) cc7)) p x T (k + 1)) := Lib.hid ⟨⟨A7, cc7, by
              have := hb7.set 4 (.slice A7 (k + 1) cc7)
              simpa using this, by
              rw [HTk.out]
              exact Wd.own_keep hO7 fun g hg => Below.heap_setCell _ _ _ _ (fun e => by have := (Wd.own_lt hO7 hg).2.1; have e' : g = p := e; omega)⟩, hl7.set (a := ⟨p, 4, none⟩) rfl _⟩
            clear hb7 hO7 hg7 c7 f7 hl7 hO5 hb5 hl5 hR5
            go_wp2_with fail
            go_roundw
            case rel => exact ⟨k + 1, by go_num, by omega, I7⟩
            case measure => simp [intOf]; omega)
        · have hkI : ¬ (k : Int) < (qn : Int) := by omega
          obtain rfl : k = qn := by omega
          obtain ⟨V, vc, hbx, hown⟩ := hI.out.ex
          have M67 := Lib.hid hI.out.mv
          obtain ⟨w7, hw7⟩ : ∃ w7, w7 = wr := ⟨_, rfl⟩
          rw [← hw7] at hbx hown M67
          rw [List.take_of_length_le (by rw [HTl.out]; exact Nat.le_refl _)] at hown
          have hp7 : p < w7.heap.size := hbx.lt
          have Hown := Lib.hid hown
          have SB7 := Lib.hid (show Sb w7 w.heap.size A n c s.key s.cmp s.del s.sort from (M67.out.keep _ H6.out.s.lt (by omega)).trans H6.out.s)
          have RB7 := Lib.hid (show Gb w7 (w.heap.size + 1 + 1) 0 0 0 0 none 0 0 none 0 0 from (M67.out.keep _ H6.out.r.lt (by omega)).trans H6.out.r)
          have B7 := Lib.hid (show Below w.heap.size w w7 from H6.out.b.trans (M67.out.below (by rintro g rfl; omega) H6.out.b.size))
          have J0 := Lib.hid (show CJ w7 w7 p x V k vc l (arr s l) 0 from ⟨⟨none, 0, [], rfl, hbx, Wd.OwC.nil _ _, fun j hj => by omega⟩, Wd.Mv.refl _ _⟩)
          have Hw7 := Lib.hid hw7
          have Ho := Lib.hid (show (arr s l).length = k by rw [arr_len, ← Hm.out])
          clear hI hbx hown hw7 hi hz0 hz1 hz2
          rw [← Hw7.out]
          go_wp2_with fail
          go_loopw [17] (fun i wr => ∃ u : Nat, i = .int .i64 u ∧ u ≤ n ∧ Hid (CJ w7 wr p x V k vc l (arr s l) u)) (fun i _ => n - (intOf i).toNat)
          case atStart => exact ⟨0, rfl, Nat.zero_le _, J0⟩
          case round =>
            clear J0
            obtain ⟨u, rfl, hu, hI⟩ := hrel
            have SB := (hI.out.mv.keep _ SB7.out.lt (by omega)).trans SB7.out
            obtain ⟨c0, -, -, -, -⟩ := five (show Sb wr w.heap.size A n c s.key s.cmp s.del s.sort from SB)
            by_cases hlt : u < n
            · have huI : (u : Int) < (n : Int) := by omega
              obtain ⟨w8, hw8⟩ : ∃ w8, w8 = wr := ⟨_, rfl⟩
              rw [← hw8] at hI
              have M68 := Lib.hid (M67.out.then hI.out.mv)
              have B8 := Lib.hid (show Below w.heap.size w w8 from B7.out.trans (hI.out.mv.below (by rintro g rfl; omega) B7.out.size))
              have Hw8 := Lib.hid hw8
              have HI := Lib.hid hI.out
              have hrow := Lib.hid (show ∀ r ∈ l, r.length = n from fun r hr => by rw [HS.out.len]; exact ((Sc.fits_get _ _).1 (P1.out.2 r hr).2).1)
              clear hw8 hI SB
              rw [← Hw8.out] at c0 ⊢
              go_wp2_with fail
              go_loopw [18, 19] (fun v i wq => ∃ j : Nat, i = .int .i64 j ∧ j ≤ k ∧ Hid (wq.ownsRow w8.heap.size 47 4 v ((pick l (arr s l) u).take j).length (Wd.flatV ((pick l (arr s l) u).take j)) ∧ (∀ q, q < ((pick l (arr s l) u).take j).length → Wd.V1 (((pick l (arr s l) u).take j).getD q default)) ∧ Below w8.heap.size w8 wq)) (fun _ i _ => k - (intOf i).toNat)
              case atStart => exact ⟨0, rfl, Nat.zero_le _, Lib.hid ⟨World.ownsRow_nil _ _ _ _, (fun q hq => by simp at hq), Below.refl _ _⟩⟩
              case round =>
                clear c0
                obtain ⟨j, rfl, hj, hJ⟩ := hrel
                have M6r := Lib.hid (M68.out.then (Wd.Mv.of_below hJ.out.2.2))
                have Br := Lib.hid (B8.out.trans (hJ.out.2.2.mono B8.out.size))
                by_cases hlj : j < k
                · have hjI : (j : Int) < (k : Int) := by omega
                  have hjo : j < (arr s l).length := by rw [Ho.out]; exact hlj
                  obtain ⟨b, f, hA, _, co⟩ := (HS6.out.keep M6r.out fun a ha _ e => by have := HN6.out a ha; omega).rd j (by rw [Ssm.ns_len]; exact hjo)
                  rw [Ssm.ns_get] at co
                  have hxo : (arr s l).getD j 0 < l.length := (arr_mem s l).1 (by rw [List.getD_eq_getElem?_getD, List.getElem?_eq_getElem hjo]; exact List.getElem_mem hjo)
                  have hnx := pick_next (l := l) (k := u) hjo
                  obtain ⟨y, hy⟩ : ∃ y, y = (arr s l).getD j 0 := ⟨_, rfl⟩
                  rw [← hy] at co hxo hnx
                  obtain ⟨b2, f2, A2, n2, c2, hA2, _, cl, hV2⟩ := (HL.out.below Br.out).at_ y hxo
                  have hrl := hrow.out (l.getD y []) (by rw [List.getD_eq_getElem?_getD, List.getElem?_eq_getElem hxo]; exact List.getElem_mem hxo)
                  obtain ⟨b3, f3, hA3, _, e0, e1, e2, e3, hv1⟩ := hV2.cells (j := u) (by omega) rfl
                  have hn2 := hV2.len
                  have hcap2 := hV2.cap
                  have hmax2 := hV2.max
                  unfold maxLen at hmax2
                  have k2 : (u : Int) < (n2 : Int) := by omega
                  have xm : (y : Int) < (k : Int) := by have := Hm.out; omega
                  obtain ⟨v, hv⟩ : ∃ v, v = (l.getD y []).getD u default := ⟨_, rfl⟩
                  rw [← hv] at e0 e1 e2 e3 hv1 hnx
                  subst hA hA2 hA3
                  obtain ⟨vk, vi, vs, vb⟩ := v
                  have hzz := hJ.out.2.2.size
                  have hO4 : (wr.alloc (.cells #[.int .i64 vk, .int .i64 vi, .string vs, .bool vb] 47)).ownsRow w8.heap.size 47 4 u18 ((pick l (arr s l) u).take j).length (Wd.flatV ((pick l (arr s l) u).take j)) := hJ.out.1.alloc _
                  have hcv := Wd.vals_new wr ⟨vk, vi, vs, vb⟩ _ rfl
                  have hdk : ((pick l (arr s l) u).take j).length ≤ 1000000 := by rw [List.length_take]; omega
                  have Hnx := Lib.hid hnx
                  have Hv1 := Lib.hid hv1
                  have HJ := Lib.hid hJ.out
                  clear hnx hv1 hJ hV2 hrl hn2 hxo hjo hv hy
                  go_wp2_with (at_builtin; refine Wd.wpList_appV1 _ rfl (.tmp 127) (.tmp 138) rfl w8.heap.size u18 ((pick l (arr s l) u).take j) rfl hO4 _ ⟨vk, vi, vs, vb⟩ rfl hcv hdk (by simp; omega) ?_; intro v9 w9 hO9 hg9)
                  have hb9 : Below w8.heap.size w8 w9 := (HJ.out.2.2.alloc hzz (.cells #[.int .i64 vk, .int .i64 vi, .string vs, .bool vb] 47)).grown hg9 (by simp; omega) fun g hg => (hO4.lt g hg).1
                  have J9 := Lib.hid (show w9.ownsRow w8.heap.size 47 4 v9 ((pick l (arr s l) u).take (j + 1)).length (Wd.flatV ((pick l (arr s l) u).take (j + 1))) ∧ (∀ q, q < ((pick l (arr s l) u).take (j + 1)).length → Wd.V1 (((pick l (arr s l) u).take (j + 1)).getD q default)) ∧ Below w8.heap.size w8 w9 from
                    ⟨by rw [Hnx.out]; exact hO9, by rw [Hnx.out]; exact Sx.v1_app HJ.out.2.1 Hv1.out, hb9⟩)
                  clear hb9 hO9 hg9 hO4
                  go_roundw
                  case rel => exact ⟨j + 1, by go_num, by omega, J9⟩
                  case measure => simp [intOf]; omega
                · have hjI : ¬ (j : Int) < (k : Int) := by omega
                  obtain rfl : j = k := by omega
                  have hv := hJ.out
                  rw [List.take_of_length_le (by rw [pick_len, Ho.out]; exact Nat.le_refl _)] at hv
                  obtain ⟨A5, n5, c5, rfl, hV5⟩ := Wd.Vs.of_own hv.1 hv.2.1
                  have hmy : ∀ v ∈ pick l (arr s l) u, May v := fun v hv => by
                    obtain ⟨y, hy, rfl⟩ := List.mem_map.1 hv
                    have hyl := (arr_mem s l).1 hy
                    have hmem : l.getD y [] ∈ l := by rw [List.getD_eq_getElem?_getD, List.getElem?_eq_getElem hyl]; exact List.getElem_mem hyl
                    have hl2 := hrow.out _ hmem
                    refine Hmay.out _ hmem _ ?_
                    rw [List.getD_eq_getElem?_getD (i := u), List.getElem?_eq_getElem (by omega)]
                    exact List.getElem_mem _
                  have Cb := Lib.hid (Cx.refBuild_any A5 n5 c5 (pick l (arr s l) u) wr hV5 fun v hv => may_size (hmy v hv))
                  obtain ⟨C, hC⟩ : ∃ C, build (pick l (arr s l) u) = (C, 0) := ⟨_, by rw [Co.build_ok (by rw [pick_len, Ho.out]; exact hm4) hmy]⟩
                  rw [hC] at Cb
                  have Cb : Hid (Calls Tryz.prog 35 #[.slice A5 n5 c5] wr fun e w' => ∃ A n c B m d, e = .returned (.tuple #[.agg #[.int .i64 C.n, .slice A n c, .slice B m d], .int .i64 0]) ∧ Cx.Cl w' A n c B m d C ∧ Below wr.heap.size wr w') := Lib.hid Cb.out
                  have HC := Lib.hid (show C = (build (pick l (arr s l) u)).1 by rw [hC])
                  have Hbel := Lib.hid hJ.out.2.2
                  clear hv hV5 hmy hJ hC
                  go_wp2_with fail
                  refine Cb.out.mono ?_
                  rintro e w9 ⟨A6, n6, c6, B6, m6, d6, rfl, hCl, hB9⟩
                  have hb9 := Hbel.out.trans (hB9.mono Hbel.out.size)
                  have I10 := HI.out.below (hb9.alloc hb9.size (.cells #[.int .i64 C.n, .slice A6 n6 c6, .slice B6 m6 d6] 57))
                  have cl10 := hCl.below ((Below.refl w9.heap.size w9).alloc (Nat.le_refl _) (.cells #[.int .i64 C.n, .slice A6 n6 c6, .slice B6 m6 d6] 57))
                  have bx10 := Cx.Cb.new w9 C.n A6 n6 c6 B6 m6 d6
                  have z10 := (hb9.alloc hb9.size (.cells #[.int .i64 C.n, .slice A6 n6 c6, .slice B6 m6 d6] 57)).size
                  have z78 := HI.out.mv.size
                  clear hCl hB9 Cb M6r Br hb9
                  go_upto_region 27 with fail
                  obtain ⟨w10, hw10⟩ : ∃ w10, w10 = w9.alloc (.cells #[.int .i64 C.n, .slice A6 n6 c6, .slice B6 m6 d6] 57) := ⟨_, rfl⟩
                  rw [← hw10] at I10 cl10 bx10 z10 ⊢
                  clear hw10
                  obtain ⟨⟨KA, kc, L, h1, h2, h3, h4⟩, h5⟩ := I10
                  have b5 := h2.cell 5
                  have r0 := bx10.c0
                  have r1 := bx10.c1
                  have r2 := bx10.c2
                  have al := (Below.refl w10.heap.size w10).alloc (Nat.le_refl _) (.cells #[.int .i64 C.n, .slice A6 n6 c6, .slice B6 m6 d6] 57)
                  have h2' := h2.below h2.lt al
                  have h3' := h3.below al
                  have h4' : ∀ j, j < u → Wd.Cr1 (w10.alloc (.cells #[.int .i64 C.n, .slice A6 n6 c6, .slice B6 m6 d6] 57)) (L.getD j default) ∧ (L.getD j default).C = (build (pick l (arr s l) j)).1 := fun j hj => ⟨(h4 j hj).1.below al, (h4 j hj).2⟩
                  have h5' := h5.alloc (.cells #[.int .i64 C.n, .slice A6 n6 c6, .slice B6 m6 d6] 57)
                  have cl11 := cl10.below al
                  have hnew := Wd.Bx.new w10 57 (Wd.Cr.vals ⟨A6, n6, c6, B6, m6, d6, C⟩).toArray
                  have hcv : ∀ j u, (Wd.Cr.vals ⟨A6, n6, c6, B6, m6, d6, C⟩)[j]? = some u → (w10.alloc (.cells #[.int .i64 C.n, .slice A6 n6 c6, .slice B6 m6 d6] 57)).cell? ((⟨w10.heap.size, 0, none⟩ : Addr).add j) = some u := fun j u hu => by
                    rw [Addr.add_lit, Nat.zero_add]
                    have := hnew.cell j
                    rw [List.getElem?_toArray] at this
                    exact this.trans hu
                  have hkL : L.length ≤ 1000000 := by omega
                  have hzz : w7.heap.size ≤ (w10.alloc (.cells #[.int .i64 C.n, .slice A6 n6 c6, .slice B6 m6 d6] 57)).heap.size := h5'.size
                  have hne : some p ≠ (Value.slice KA u kc).ownBlock := fun e => by have := (h3.block e.symm).1; omega
                  clear h2 h3 h4 h5 cl10 al hnew
                  go_wp2_with (at_builtin; refine Wd.wpList_appC _ rfl (.tmp 146) (.tmp 148) rfl w7.heap.size (.slice KA u kc) L rfl h3' ⟨w10.heap.size, 0, none⟩ ⟨A6, n6, c6, B6, m6, d6, C⟩ rfl hcv hkL hzz ?_; intro KB kd w12 h6 hg; rw [h1]; have hb12 := h2'.grown hg hne; have c12 := hb12.cell 5; have f12 := hb12.free 5)
                  have J12 := Lib.hid (CJ.more hp7 h1 h2' h3' h4' h5' (show Wd.Cr1 _ ⟨A6, n6, c6, B6, m6, d6, C⟩ from cl11) HC.out hg h6)
                  clear hb12 c12 f12 h6 hg h2' h3' h4' h5' cl11 hcv
                  go_roundw
                  case rel => exact ⟨u + 1, by go_num, by omega, J12⟩
                  case measure => simp [intOf]; omega
            · have huI : ¬ (u : Int) < (n : Int) := by omega
              obtain rfl : u = n := by omega
              obtain ⟨⟨KA, kc, L, h1, h2, h3, h4⟩, h5⟩ := hI.out
              have hr3 : Gb wr (w.heap.size + 1 + 1) 0 0 0 0 none 0 0 none 0 0 := (h5.keep _ RB7.out.lt (by omega)).trans RB7.out
              obtain ⟨u0, u1, u2, u3, u4, u5⟩ := Gb.six hr3
              have f0 := hr3.free 0
              have f1 := hr3.free 1
              have f2 := hr3.free 2
              have f3 := hr3.free 3
              have f4 := hr3.free 4
              have f5 := hr3.free 5
              obtain ⟨v0, v1, v2, v3, v4, v5⟩ := Gb.six (show Gb wr p x.part x.id x.st x.en V k vc KA u kc from h2)
              have hown := Wd.own_keep Hown.out fun g hg => h5.keep g (Wd.own_lt Hown.out hg).1 (by have := (Wd.own_lt Hown.out hg).2.1; omega)
              obtain ⟨V', n', vc', e1, hSl⟩ := Wd.Sl.of_own hown
              cases e1
              have m6 := mv6 wr (w.heap.size + 1 + 1) (.int .i64 x.part) (.int .i64 x.id) (.int .i64 x.st) (.int .i64 x.en) (.slice V k vc) (.slice KA u kc)
              have K6 := Lib.hid (box6 (x0 := .int .i64 x.part) (x1 := .int .i64 x.id) (x2 := .int .i64 x.st) (x3 := .int .i64 x.en) (x4 := .slice V k vc) (x5 := .slice KA u kc) hr3)
              have Bw := B7.out.trans (h5.below (by rintro g rfl; omega) B7.out.size)
              have B6 := Lib.hid (below6 Bw (p := w.heap.size + 1 + 1) (by omega) (.int .i64 x.part) (.int .i64 x.id) (.int .i64 x.st) (.int .i64 x.en) (.slice V k vc) (.slice KA u kc))
              have hSl6 := hSl.keep m6 fun a ha _ q => by
                have := (Wd.own_lt hown (x := a.block) (by rw [ha]; rfl)).2.1
                omega
              have h3' := h3.keep m6 fun g e q => by have := (h3.block e).1; omega
              have hcm6 := h3'.cms fun j hj => (h4 j (by omega)).1.keep m6 fun g e => by
                subst e
                exact ⟨_, _, hr3, seg_nos _ _ _ _ _ _ _ _ _ _, seg_no _ _ _ _ _ _ _ _ _ _⟩
              have hqo6 := ((HS6.out.keep M67.out fun a ha _ e => by have := HN6.out a ha; omega).keep h5 fun a ha _ e => by have := HN6.out a ha; omega).keep m6 fun a ha _ q => by have := HN6.out a ha; omega
              have hcols : Wd.cols L = colsOf s.cols.length l (arr s l) := by
                rw [← HS.out.len]
                refine List.ext_getElem (by rw [Wd.cols_len, colsOf_len, h1]) fun j q1 q2 => ?_
                have q3 : j < u := by rw [Wd.cols_len, h1] at q1; exact q1
                have := (h4 j q3).2
                rw [← Wd.cols_get, ← colsOf_get q3] at this
                simpa [List.getD, List.getElem?_eq_getElem q1, List.getElem?_eq_getElem q2] using this
              have hfit : Wd.Fits .i64 T := fun z hz => by
                rw [HT.out] at hz
                obtain ⟨y, hy, rfl⟩ := List.mem_map.1 hz
                have := (arr_mem s l).1 hy
                refine Hf.out _ ?_
                rw [List.getD_eq_getElem?_getD, List.getElem?_eq_getElem (by rw [PA.out.2.2.1]; exact this)]
                exact List.getElem_mem _
              have hSg := Lib.hid (show Sg _ V k vc KA u kc L (sealed s x l offs) from ⟨by rw [HT.out] at hSl6; exact hSl6, hcm6, hcols.symm, by rw [HT.out] at hfit; exact hfit, HX.out.w0, HX.out.w1, HX.out.w2, HX.out.w3⟩)
              have Hqo := Lib.hid hqo6
              clear hSl6 hcm6 hqo6 hfit m6 hSl hown hr3 h2 h3 h3' h4 h5 hI hcols Bw SB
              go_wp2_with fail
              have g0 := K6.out.cell 0
              have g1 := K6.out.cell 1
              have g2 := K6.out.cell 2
              have g3 := K6.out.cell 3
              have g4 := K6.out.cell 4
              have g5 := K6.out.cell 5
              refine bodyPost_ret (v := .tuple #[.agg #[.int .i64 x.part, .int .i64 x.id, .int .i64 x.st, .int .i64 x.en, .slice V k vc, .slice KA u kc], .slice QA k qc2, .int .i64 0]) ?_ rfl (by rw [hr1.out]; exact ⟨_, _, _, _, _, _, _, _, _, _, rfl, hSg.out, Hqo.out, B6.out⟩)
              rw [Vc.res_cell3 rfl]; go_simp
end Se
end Go.Proofs.YtaoeipehpakngaaGreatDoor
