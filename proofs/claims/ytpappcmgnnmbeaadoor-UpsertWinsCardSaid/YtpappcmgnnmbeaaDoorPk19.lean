/- A table in memory, where one of its maps turns. Package upsert: crown. -/
import Derived.Deep.DeepCutAuto
import Derived.Test.YtpappcmgnnmbeaaDoorPk18
import Derived.Test.YtpappcmgnnmbeaaDoorPk14
namespace Go.Proofs.YtpappcmgnnmbeaaDoor
set_option maxRecDepth 20000
open Go.RowKit Go.Maps
namespace Up
open Va (Vl)
open Sc (Sch FitS MayS tr tr_yes tr_no)
section
variable {w w' : World} {t : Nat} {A : Option Addr} {n c : Nat} {s : Sch} {bd bw bs nd nw ns : Nat} {fd fw : Int → Option Value} {sg : Vl → Option Int} {W : Vl → Option Rw} {Dc : Int → List Int} {N : Nat} {F : Nat → Prop}
/-- No block of a record or a word turns where map b does. -/
theorem alien_one {α : Type} {k : TypeId} {K : Ky α k} {b m : Nat} {f : α → Option Value} (h : Mp K w b m f) : Alien w (fun x => x = b) := by
  rintro x rfl
  exact alien_mp h
theorem mv_one {b : Nat} (hg : w.grownBy w' (some b)) : Wd.Mv (fun x => x = b) w w' := Wd.Mv.of_grown hg (fun g e => by cases e; rfl)
theorem Lay.mono (h : Lay w t A n c s bd bw bs nd nw ns fd fw sg W Dc N F) {M : Nat} (hM : N ≤ M) : Lay w t A n c s bd bw bs nd nw ns fd fw sg W Dc M F := by
  refine ⟨h.box, h.sch, h.docs, h.wins, h.segs, h.dd, fun g => ?_, h.ne, h.inj, h.ft, h.fo, ?_⟩
  · have := h.ii g
    revert this
    cases fw g with
    | none => exact id
    | some v =>
      rintro ⟨b, m, e, hm, h1, r⟩
      exact ⟨b, m, e, hm, Nat.le_trans h1 hM, r⟩
  · have := h.nn
    omega
/-- The winners of one segment turn. -/
theorem Lay.turn (h : Lay w t A n c s bd bw bs nd nw ns fd fw sg W Dc N F) {g : Int} {b m : Nat} {f : Vl → Option Value} {W' : Vl → Option Rw} (hg : fw g = some (.map (some b))) (hw : w.grownBy w' (some b)) (hm : Mp kV w' b m f) (hN : m ≤ N)
    (h1 : ∀ v, inn W' g v = f v) (h2 : ∀ g', g' ≠ g → ∀ v, inn W' g' v = inn W g' v) : Lay w' t A n c s bd bw bs nd nw ns fd fw sg W' Dc N F := by
  obtain ⟨m0, hm0, _, hF, n1, n2, n3⟩ := h.inner hg
  have hal := alien_one hm0
  have mv := mv_one hw
  have k : ∀ x, x < w.heap.size → x ≠ b → w'.heap[x]? = w.heap[x]? := fun x hx q => mv.keep x hx q
  refine ⟨h.box.at_ (k _ h.box.lt (h.tb hm0)), cs_alien h.sch hal mv, h.docs.keep (k _ h.docs.lt (Ne.symm n1)), h.wins.keep (k _ h.wins.lt (Ne.symm n2)), h.segs.keep (k _ h.segs.lt (Ne.symm n3)), fun g => (h.dd g).keep hal mv, fun g' => ?_, h.ne, h.inj, h.ft, h.fo, h.nn⟩
  by_cases e : g' = g
  · subst e
    rw [hg]
    exact ⟨b, m, rfl, hm.congr (fun x _ => (h1 x).symm) (fun x hx => hm.ok (by rw [← h1 x]; exact hx)), hN, hF, n1, n2, n3⟩
  · have h3 := h.ii g'
    have e2 : inn W' g' = inn W g' := funext (h2 g' e)
    rw [e2]
    rcases h.winv g' with q | ⟨b', q⟩
    · rw [q] at h3 ⊢
      exact h3
    · obtain ⟨m', hm', r1, r2, r3, r4, r5⟩ := h.inner q
      have hne : b' ≠ b := fun z => e (h.inj g' g b (z ▸ q) hg)
      rw [q]
      exact ⟨b', m', rfl, hm'.keep (k _ hm'.lt hne), r1, r2, r3, r4, r5⟩
theorem inn_upd_at (W : Vl → Option Rw) (v : Vl) (o : Option Rw) (g : Int) (x : Vl) : inn (upd W v o) g x = if x = v then inn (fun _ => o) g x else inn W g x := by
  unfold inn upd
  by_cases e : x = v
  · simp [e]
  · simp [e]
/-- The winner of a key is struck out of its segment. -/
theorem Lay.strike (h : Lay w t A n c s bd bw bs nd nw ns fd fw sg W Dc N F) {g : Int} {b : Nat} (hg : fw g = some (.map (some b))) {v : Vl} (hv : kV.ok v) (hr : ∀ r, W v = some r → r.seg = g) :
    ∃ w', (∀ ty, (Builtin.delete_ #[83, 27] ty #[.map (some b), .agg #[.int .i64 v.kind, .int .i64 v.i, .string v.s, .bool v.b]]).run Tryd.prog w = .ok (.tuple #[]) w') ∧ w.grownBy w' (some b) ∧ Lay w' t A n c s bd bw bs nd nw ns fd fw sg (upd W v none) Dc N F := by
  obtain ⟨m, hm, hN, _⟩ := h.inner hg
  obtain ⟨w', r1, r2, r3⟩ := hm.drop Tryd.underlying83 hv 0
  refine ⟨w', fun _ => r1, r3, h.turn hg r3 r2 (by split <;> omega) (fun x => ?_) (fun g' e x => ?_)⟩
  · rw [inn_upd_at]
    unfold upd
    split <;> rfl
  · rw [inn_upd_at]
    split
    · rename_i q
      subst q
      show none = inn W g' x
      unfold inn
      rcases hq : W x with _ | r
      · rfl
      · exact (if_neg (fun z => e (z.symm.trans (hr r hq)))).symm
    · rfl
/-- A winner is put into its segment. -/
theorem Lay.put (h : Lay w t A n c s bd bw bs nd nw ns fd fw sg W Dc N F) {b : Nat} {r : Rw} (hg : fw r.seg = some (.map (some b))) {v : Vl} (hv : kV.ok v) (hW : W v = none) (hN : N + 1 < maxLen) :
    ∃ w', (Instr.mapUpdate 83 (.map (some b)) (.agg #[.int .i64 v.kind, .int .i64 v.i, .string v.s, .bool v.b]) (wv r)).run Tryd.prog w = .ok () w' ∧ w.grownBy w' (some b) ∧ Lay w' t A n c s bd bw bs nd nw ns fd fw sg (upd W v (some r)) Dc (N + 1) F := by
  obtain ⟨m, hm, hN', _⟩ := h.inner hg
  obtain ⟨w', r1, r2, r3⟩ := hm.store Tryd.underlying83 (by omega) hv (wv r)
  refine ⟨w', r1, r3, (h.mono (Nat.le_succ N)).turn hg r3 r2 (by split <;> omega) (fun x => ?_) (fun g' e x => ?_)⟩
  · rw [inn_upd_at]
    unfold upd
    split
    · unfold inn
      exact if_pos rfl
    · rfl
  · rw [inn_upd_at]
    split
    · rename_i q
      subst q
      unfold inn
      rw [hW]
      exact if_neg (fun z => e z.symm)
    · rfl
/-- A segment gets an empty map of winners. -/
theorem Lay.fresh (h : Lay w t A n c s bd bw bs nd nw ns fd fw sg W Dc N F) {g : Int} (hg : fw g = none) (hwf : (Lit.int .i64 g).wf = true) (hN : N + 1 < maxLen) :
    ∃ w', (Instr.mapUpdate 75 (.map (some bw)) (.int .i64 g) (.map (some w.heap.size))).run Tryd.prog (w.alloc (.map #[] 0)) = .ok () w' ∧ (w.alloc (.map #[] 0)).grownBy w' (some bw) ∧
      Lay w' t A n c s bd bw bs nd (nw + 1) ns fd (upd fw g (some (.map (some w.heap.size)))) sg W Dc (N + 1) (fun x => F x ∨ x = w.heap.size) := by
  have h1 := (h.mono (Nat.le_succ N)).below ((Below.refl _ _).alloc (Nat.le_refl _) (.map #[] 0))
  have hnew := Mp.made (K := kV) w
  obtain ⟨w', r1, r2, r3⟩ := h1.wins.store Tryd.underlying75 (by have := h.nn; omega) (x := g) hwf (.map (some w.heap.size))
  rw [hg] at r2
  simp only [Option.isSome_none, Bool.false_eq_true, if_false] at r2
  have hal := alien_one h1.wins
  have mv := mv_one r3
  have hlt : ∀ x, F x → x < w.heap.size := fun x hx => h.lt hx
  obtain ⟨f1, f2, f3, f4⟩ := h.ft
  obtain ⟨e1, e2, e3⟩ := h.ne
  have k : ∀ x, x < (w.alloc (.map #[] 0)).heap.size → x ≠ bw → w'.heap[x]? = (w.alloc (.map #[] 0)).heap[x]? := fun x hx q => mv.keep x hx q
  have hbw := hlt bw f3
  have hbd := hlt bd f2
  have hbs := hlt bs f4
  have hsz : (w.alloc (.map #[] 0)).heap.size = w.heap.size + 1 := by simp
  refine ⟨w', r1, r3, ⟨h1.box.at_ (k _ h1.box.lt (h1.tb h1.wins)), cs_alien h1.sch hal mv, h1.docs.keep (k _ h1.docs.lt e1), r2, h1.segs.keep (k _ h1.segs.lt (Ne.symm e3)), fun g => (h1.dd g).keep hal mv, fun g' => ?_, h.ne, fun g1 g2 b q1 q2 => ?_, ⟨.inl f1, .inl f2, .inl f3, .inl f4⟩, fun x hx => ?_, ?_⟩⟩
  · by_cases e : g' = g
    · subst e
      show WinAt w' _ bd bw bs (N + 1) (inn W g') (upd fw g' _ g')
      unfold upd
      rw [if_pos rfl]
      refine ⟨w.heap.size, 0, rfl, ((hnew.keep (k _ hnew.lt (by omega))).congr (fun x _ => ?_) (fun x hx => ?_)), Nat.zero_le _, .inr rfl, by omega, by omega, by omega⟩
      · exact (h.none_ hg x).symm
      · rw [h.none_ hg x] at hx
        cases hx
    · show WinAt w' _ bd bw bs (N + 1) (inn W g') (upd fw g _ g')
      unfold upd
      rw [if_neg e]
      have h3 := h1.ii g'
      rcases h1.winv g' with q | ⟨b', q⟩
      · rw [q] at h3 ⊢
        exact h3
      · obtain ⟨m', hm', z1, z2, z3, z4, z5⟩ := h1.inner q
        rw [q]
        exact ⟨b', m', rfl, hm'.keep (k _ hm'.lt z4), z1, .inl z2, z3, z4, z5⟩
  · unfold upd at q1 q2
    have hold : ∀ g0 : Int, fw g0 = some (.map (some w.heap.size)) → False := fun g0 q => by
      obtain ⟨m', hm', _, z2, _⟩ := h.inner q
      have := hlt _ z2
      omega
    split at q1 <;> split at q2
    · rename_i i1 i2; rw [i1, i2]
    · injection q1 with q1
      injection q1 with q1
      injection q1 with q1
      exact (hold _ (q1 ▸ q2)).elim
    · injection q2 with q2
      injection q2 with q2
      injection q2 with q2
      exact (hold _ (q2 ▸ q1)).elim
    · exact h.inj _ _ _ q1 q2
  · rcases hx with hx | rfl
    · rcases h.fo x hx with z | z | z | z | ⟨g0, z⟩
      · exact .inl z
      · exact .inr (.inl z)
      · exact .inr (.inr (.inl z))
      · exact .inr (.inr (.inr (.inl z)))
      · refine .inr (.inr (.inr (.inr ⟨g0, ?_⟩)))
        unfold upd
        rw [if_neg (fun e => by rw [e, hg] at z; cases z)]
        exact z
    · exact .inr (.inr (.inr (.inr ⟨g, by unfold upd; rw [if_pos rfl]⟩)))
  · have := h.nn
    omega
/-- A key's segment is written down. -/
theorem Lay.segset (h : Lay w t A n c s bd bw bs nd nw ns fd fw sg W Dc N F) {v : Vl} (hv : kV.ok v) (g : Int) (hN : N + 1 < maxLen) :
    ∃ w', (Instr.mapUpdate 76 (.map (some bs)) (.agg #[.int .i64 v.kind, .int .i64 v.i, .string v.s, .bool v.b]) (.int .i64 g)).run Tryd.prog w = .ok () w' ∧ w.grownBy w' (some bs) ∧
      Lay w' t A n c s bd bw bs nd nw (if (sg v).isSome then ns else ns + 1) fd fw (upd sg v (some g)) W Dc (N + 1) F := by
  obtain ⟨w', r1, r2, r3⟩ := h.segs.store Tryd.underlying76 (by have := h.nn; omega) hv (.int .i64 g)
  have h1 := h.mono (Nat.le_succ N)
  have hal := alien_one h.segs
  have mv := mv_one r3
  obtain ⟨e1, e2, e3⟩ := h.ne
  have k : ∀ x, x < w.heap.size → x ≠ bs → w'.heap[x]? = w.heap[x]? := fun x hx q => mv.keep x hx q
  have ek : (Option.map (Value.int .i64) (sg v)).isSome = (sg v).isSome := by cases sg v <;> rfl
  rw [ek] at r2
  refine ⟨w', r1, r3, ⟨h.box.at_ (k _ h.box.lt (h.tb h.segs)), cs_alien h.sch hal mv, h.docs.keep (k _ h.docs.lt e2), h.wins.keep (k _ h.wins.lt e3), ?_, fun g => (h.dd g).keep hal mv, fun g' => ?_, h.ne, h.inj, h.ft, h.fo, ?_⟩⟩
  · refine r2.congr (fun x _ => ?_) (fun x hx => ?_)
    · unfold upd
      split <;> rfl
    · by_cases e : x = v
      · rw [e]; exact hv
      · unfold upd at hx
        rw [if_neg e] at hx
        exact h.segs.ok hx
  · have h3 := h1.ii g'
    rcases h1.winv g' with q | ⟨b', q⟩
    · rw [q] at h3 ⊢
      exact h3
    · obtain ⟨m', hm', z1, z2, z3, z4, z5⟩ := h1.inner q
      rw [q]
      exact ⟨b', m', rfl, hm'.keep (k _ hm'.lt z5), z1, z2, z3, z4, z5⟩
  · have := h.nn
    split <;> omega
end
end Up
end Go.Proofs.YtpappcmgnnmbeaaDoor
namespace Go.Proofs.YtpappcmgnnmbeaaDoor
set_option maxRecDepth 20000
open Go.RowKit Go.Maps
namespace Up
open Va (Vl)
open Sc (Sch FitS MayS tr tr_yes tr_no)
section
variable {w w' : World} {t : Nat} {A : Option Addr} {n c : Nat} {s : Sch} {bd bw bs nd nw ns : Nat} {fd fw : Int → Option Value} {sg : Vl → Option Int} {W : Vl → Option Rw} {Dc : Int → List Int} {N : Nat} {F : Nat → Prop}
theorem res_none {fn : Func} (h : fn.results = #[]) (tmps : Array Value) (P : Program) (w : World) : (results fn tmps).run P w = .ok (.tuple #[]) w := by
  simp [results, h]
theorem upd_none {v : Vl} (h : W v = none) : upd W v none = W := funext fun x => by
  unfold upd
  split
  · rename_i e; rw [e, h]
  · rfl
/-- Where the two boxes of a call lie. -/
def Bxs (w : World) (p : Nat) (v : Vl) (r : Rw) : Prop := Vc.Vb w p v.kind v.i v.s v.b ∧ Wd.Bx w (p + 1) 47 #[.int .i64 r.seg, .int .i64 r.doc, .int .i64 r.cmp, .int .i64 r.off, .bool r.gone]
theorem Bxs.grown {p : Nat} {v : Vl} {r : Rw} {b : Nat} (h : Bxs w p v r) (hg : w.grownBy w' (some b)) (h1 : b ≠ p) (h2 : b ≠ p + 1) : Bxs w' p v r :=
  ⟨Wd.Bx.grown h.1 hg (fun e => h1 (by injection e with e; exact e.symm)), Wd.Bx.grown h.2 hg (fun e => h2 (by injection e with e; exact e.symm))⟩
set_option maxHeartbeats 4000000 in
theorem crown_lay (h : Lay w t A n c s bd bw bs nd nw ns fd fw (fun v => (W v).map Rw.seg) W Dc N F) (hO : SegOk W) {v : Vl} (hv : kV.ok v) {r : Rw} (hr : 0 ≤ r.seg ∧ r.seg ≤ 1073741824) (hN : N + 4 < maxLen) :
    Calls Tryd.prog 68 #[.pointer (some ⟨t, 0, none⟩), .agg #[.int .i64 v.kind, .int .i64 v.i, .string v.s, .bool v.b], .agg #[.int .i64 r.seg, .int .i64 r.doc, .int .i64 r.cmp, .int .i64 r.off, .bool r.gone]] w fun e w' => e = .returned (.tuple #[]) ∧ Wd.Mv F w w' ∧
      ∃ nw' fw' F', Lay w' t A n c s bd bw bs nd nw' (if (W v).isSome then ns else ns + 1) fd fw' (upd (fun v => (W v).map Rw.seg) v (some r.seg)) (upd W v (some r)) Dc (N + 3) F' ∧ ∀ x, F' x → Wd.Gr F w w' x := by
  have hb0 := (Below.refl w.heap.size w).alloc (Nat.le_refl _) (.cells #[.int .i64 v.kind, .int .i64 v.i, .string v.s, .bool v.b] 27)
  have hb1 := hb0.alloc hb0.size (.cells #[.int .i64 r.seg, .int .i64 r.doc, .int .i64 r.cmp, .int .i64 r.off, .bool r.gone] 47)
  have x0 : Bxs ((w.alloc (.cells #[.int .i64 v.kind, .int .i64 v.i, .string v.s, .bool v.b] 27)).alloc (.cells #[.int .i64 r.seg, .int .i64 r.doc, .int .i64 r.cmp, .int .i64 r.off, .bool r.gone] 47)) w.heap.size v r := by
    refine ⟨Wd.Bx.alloc (Wd.Bx.new w _ _) _, ?_⟩
    have := Wd.Bx.new (w.alloc (.cells #[.int .i64 v.kind, .int .i64 v.i, .string v.s, .bool v.b] 27)) 47 #[.int .i64 r.seg, .int .i64 r.doc, .int .i64 r.cmp, .int .i64 r.off, .bool r.gone]
    simpa using this
  have h1 := h.below hb1
  obtain ⟨g, mv, hg0, r1, r2, _, r4⟩ := looks h hO hv
  have r1 := r1 hb1.drew
  have r2 := r2 hb1.drew.drew
  obtain ⟨T, hT⟩ : ∃ T, T = (W v).isSome := ⟨_, rfl⟩
  rw [← hT] at r1
  have HT := Lib.hid hT
  obtain ⟨ns', hns⟩ : ∃ x, x = if (W v).isSome then ns else ns + 1 := ⟨_, rfl⟩
  rw [← hns]
  have hns := Lib.hid hns
  have hlt : ∀ x, F x → x < w.heap.size := fun x hx => h.lt hx
  have hft := h.ft
  clear hT hb0
  have c2 := h1.box.cell 6
  have c3 := h1.box.cell 7
  simp at c2 c3
  go_enter Tryd.func68, Tryd.ntmps68
  go_wp2_with fail
  generalize hwa : (w.alloc (.cells #[.int .i64 v.kind, .int .i64 v.i, .string v.s, .bool v.b] 27)).alloc (.cells #[.int .i64 r.seg, .int .i64 r.doc, .int .i64 r.cmp, .int .i64 r.off, .bool r.gone] 47) = wa at *
  have hsz : w.heap.size + 1 < wa.heap.size := x0.2.lt
  clear hwa
  obtain ⟨⟨y0, y1, y2, y3⟩, -⟩ := Vc.four x0.1
  go_region
  go_upto_if 18 with fail
  have hsz' := Lib.hid hsz
  clear hsz
  go_cut [] (fun wz => Bxs wz w.heap.size v r ∧ Wd.Mv F wa wz ∧ Lay wz t A n c s bd bw bs nd nw ns fd fw (fun v => (W v).map Rw.seg) (upd W v none) Dc N F)
  case first =>
    cases T
    · have hn : W v = none := by
        rcases q : W v with _ | r0
        · rfl
        · have := HT.out
          rw [q] at this
          cases this
      have hn' := Lib.hid hn
      clear hn
      go_wp2_with fail
      go_meet
      rw [upd_none hn'.out]
      exact ⟨x0, (Wd.Mv.refl _ _).drew, h1.below (Below.refl _ _).drew⟩
    · obtain ⟨r0, hr0⟩ : ∃ r0, W v = some r0 := by
        rcases q : W v with _ | r0
        · have := HT.out
          rw [q] at this
          cases this
        · exact ⟨r0, rfl⟩
      obtain ⟨hg1, hg2⟩ := r4 r0 hr0
      have hg3 := h.winv g
      rw [hg2] at hg3
      obtain ⟨b, hb⟩ : ∃ b, mv = some b := by
        rcases hg3 with q | ⟨b, q⟩
        · cases q
        · injection q with q
          injection q with q
          exact ⟨b, q⟩
      subst hb
      have h2 := h1.below (w' := wa.drew.drew) (Below.refl _ _).drew.drew
      obtain ⟨w1, hd1, hd2, hd3⟩ := h2.strike hg2 hv (fun r hr => by rw [hr0] at hr; cases hr; exact hg1.symm)
      have hbF : F b := by
        obtain ⟨_, _, _, q, _⟩ := h.inner hg2
        exact q
      have HR := Lib.hid (show Bxs w1 w.heap.size v r ∧ Wd.Mv F wa w1 ∧ Lay w1 t A n c s bd bw bs nd nw ns fd fw (fun v => (W v).map Rw.seg) (upd W v none) Dc N F from
        ⟨Bxs.grown (w := wa.drew.drew) x0 hd2 (by have := hlt b hbF; omega) (by have := hlt b hbF; omega), ((Wd.Mv.refl F wa).drew.drew).then (Wd.Mv.of_grown hd2 (fun g e => by cases e; exact hbF)), hd3⟩)
      have hd1 := hd1
      clear hd2 hd3 hr0 hg1 hg2 hg3 h2 r4 h1 h
      go_wp2_with fail
      go_region
      all_goals (
        go_wp2_with fail
        go_meet
        exact HR.out)
  case rest =>
    obtain ⟨z0, mv0, l0⟩ := hcut
    have l0' := Lib.hid l0
    have c4 := l0.box.cell 6
    simp at c4
    obtain ⟨u0, u1, u2, u3, u4⟩ := winc z0.2
    have hwf : (Lit.int .i64 r.seg).wf = true := wf_seg (by omega)
    obtain ⟨mb, hmb, hmb2, hmb3⟩ : ∃ mb : Option Nat, fw r.seg = mb.map (fun b => Value.map (some b)) ∧ (Instr.lookup 75 (.map (some bw)) (.int .i64 r.seg) false).run Tryd.prog wc = .ok (.map mb) wc ∧ ∀ b, mb = some b → F b := by
      have hw := l0.wins.look Tryd.underlying75 (zero_map _) (x := r.seg) hwf
      rcases l0.winv r.seg with q | ⟨b, q⟩
      · rw [q] at hw
        exact ⟨none, q, hw, fun b e => by cases e⟩
      · rw [q] at hw
        obtain ⟨_, _, _, hF, _⟩ := l0.inner q
        exact ⟨some b, q, hw, fun b' e => by cases e; exact hF⟩
    clear h1 r1 r2 c2 c3 h hO r4 HT y0 y1 y2 y3
    obtain ⟨B, hB, hB2⟩ : ∃ B : Bool, (binOp .eql 83 (.map mb) (.map none)).run Tryd.prog wc = .ok (.bool B) wc ∧ Hid (B = mb.isNone) := by
      cases mb
      · exact ⟨true, by kernel_rfl, Lib.hid rfl⟩
      · exact ⟨false, by kernel_rfl, Lib.hid rfl⟩
    go_upto_if 35 with fail
    have hszc := mv0.size
    go_cut [8] (fun sv wz => sv = .int .i64 r.seg ∧ ∃ b nw' fw' F', fw' r.seg = some (.map (some b)) ∧ Bxs wz w.heap.size v r ∧ Wd.Mv F wa wz ∧ Hid (∀ x, F' x → Wd.Gr F wa wz x) ∧ Lay wz t A n c s bd bw bs nd nw' ns fd fw' (fun v => (W v).map Rw.seg) (upd W v none) Dc (N + 1) F')
    case first =>
      cases B
      · obtain ⟨b, hb⟩ : ∃ b, mb = some b := by
          cases mb
          · have := hB2.out; cases this
          · exact ⟨_, rfl⟩
        have HR := Lib.hid (show ∃ b nw' fw' F', fw' r.seg = some (.map (some b)) ∧ Bxs wc w.heap.size v r ∧ Wd.Mv F wa wc ∧ Hid (∀ x, F' x → Wd.Gr F wa wc x) ∧ Lay wc t A n c s bd bw bs nd nw' ns fd fw' (fun v => (W v).map Rw.seg) (upd W v none) Dc (N + 1) F' from
          ⟨b, nw, fw, F, by rw [hmb, hb]; rfl, z0, mv0, Lib.hid (fun x hx => .inl hx), l0.mono (Nat.le_succ N)⟩)
        clear hb hmb hmb2 hmb3 l0
        go_wp2_with fail
        go_meet
        exact ⟨rfl, HR.out⟩
      · have hn : mb = none := by
          cases mb
          · rfl
          · have := hB2.out; cases this
        have hfn : fw r.seg = none := by rw [hmb, hn]; rfl
        obtain ⟨w2, k1, k2, k3⟩ := l0.fresh hfn hwf (by omega)
        have hlc : ∀ x, F x → x < wc.heap.size := fun x hx => l0.lt hx
        have hszc' := hsz'.out
        have HR := Lib.hid (show ∃ b nw' fw' F', fw' r.seg = some (.map (some b)) ∧ Bxs w2 w.heap.size v r ∧ Wd.Mv F wa w2 ∧ Hid (∀ x, F' x → Wd.Gr F wa w2 x) ∧ Lay w2 t A n c s bd bw bs nd nw' ns fd fw' (fun v => (W v).map Rw.seg) (upd W v none) Dc (N + 1) F' from by
          have hbF := hft.2.2.1
          refine ⟨wc.heap.size, _, _, _, ?_, ?_, ?_, ?_, k3⟩
          · unfold upd; rw [if_pos rfl]
          · have z1 : Bxs (wc.alloc (.map #[] 0)) w.heap.size v r := ⟨Wd.Bx.alloc z0.1 _, Wd.Bx.alloc z0.2 _⟩
            exact z1.grown k2 (by have := hlt bw hbF; omega) (by have := hlt bw hbF; omega)
          · exact (mv0.alloc _).then (Wd.Mv.of_grown k2 (fun g e => by cases e; exact hbF))
          · refine Lib.hid fun x hx => ?_
            rcases hx with hx | hx
            · exact .inl hx
            · refine .inr ⟨by omega, ?_⟩
              have := k2.size
              rw [World.size_alloc] at this
              omega)
        have hmm := @run_makeMap Tryd.prog
        clear hn hmb hmb2 hmb3 l0 hfn k2 k3 hszc'
        go_wp2_with fail
        go_meet
        exact ⟨rfl, HR.out⟩
    case rest =>
      obtain ⟨rfl, b, nw', fw', F', hfw, z2, mv2, hG, l2⟩ := hcut
      clear l0 c4 hB hB2 hmb hmb2 hmb3 u0 u1 u2 u3 u4 l0' z0 mv0
      have l2d := l2.below (Below.refl _ _).drew
      have c5 := l2.box.cell 6
      simp at c5
      obtain ⟨u0, u1, u2, u3, u4⟩ := winc z2.2
      obtain ⟨⟨y0, y1, y2, y3⟩, -⟩ := Vc.four z2.1
      have k1 : (Instr.lookup 75 (.map (some bw)) (.int .i64 r.seg) false).run Tryd.prog wc.drew = .ok (.map (some b)) wc.drew := by
        have hw := l2d.wins.look Tryd.underlying75 (zero_map _) (x := r.seg) hwf
        rwa [hfw] at hw
      obtain ⟨w3, k2, k3, l3⟩ := l2d.put hfw hv (by unfold upd; rw [if_pos rfl]) (by omega)
      have k2 : (Instr.mapUpdate 83 (.map (some b)) (.agg #[.int .i64 v.kind, .int .i64 v.i, .string v.s, .bool v.b]) (.agg #[.int .i64 r.seg, .int .i64 r.doc, .int .i64 r.cmp, .int .i64 r.off, .bool r.gone])).run Tryd.prog wc.drew = .ok () w3 := k2
      have hbF : F' b := by
        obtain ⟨_, _, _, q, _⟩ := l2.inner hfw
        exact q
      have hbsF : F' bs := l2.ft.2.2.2
      have hne : ∀ x, F' x → x ≠ w.heap.size ∧ x ≠ w.heap.size + 1 := by
        intro x hx
        have hs := hsz'.out
        rcases hG.out x hx with q | q
        · have := hlt x q; omega
        · omega
      have z3 : Bxs w3 w.heap.size v r := Bxs.grown (w := wc.drew) z2 k3 (hne b hbF).1 (hne b hbF).2
      have mv3 : Wd.Mv F' wc w3 := ((Wd.Mv.refl F' wc).drew).then (Wd.Mv.of_grown k3 (fun g e => by cases e; exact hbF))
      go_wp2_with fail
      go_region
      all_goals (
        have c6 := l3.box.cell 7
        simp at c6
        obtain ⟨⟨v0, v1, v2, v3⟩, -⟩ := Vc.four z3.1
        obtain ⟨w4, k4, k5, l4⟩ := (l3.below (Below.refl _ _).drew).segset hv r.seg (by omega)
        have mv4 : Wd.Mv F' wc w4 := mv3.then (((Wd.Mv.refl F' w3).drew).then (Wd.Mv.of_grown k5 (fun g e => by cases e; exact hbsF)))
        have mvF : Wd.Mv F w w4 := (Wd.Mv.of_below hb1).then (mv2.trans (mv4.mono hG.out))
        have hgr : ∀ x, F' x → Wd.Gr F w w4 x := by
          intro x hx
          rcases hG.out x hx with q | q
          · exact .inl q
          · have h1 := hb1.size
            have h2 := mv4.size
            exact .inr ⟨by omega, by omega⟩
        have e1 : upd (upd W v none) v (some r) = upd W v (some r) := funext fun x => by
          unfold upd
          split <;> rfl
        have e2 : (Option.map Rw.seg (W v)).isSome = (W v).isSome := by cases W v <;> rfl
        rw [e1, e2, ← hns.out] at l4
        have HR := Lib.hid (show Wd.Mv F w w4 ∧ ∃ nw' fw' F', Lay w4 t A n c s bd bw bs nd nw' ns' fd fw' (upd (fun v => (W v).map Rw.seg) v (some r.seg)) (upd W v (some r)) Dc (N + 3) F' ∧ ∀ x, F' x → Wd.Gr F w w4 x from ⟨mvF, nw', fw', F', l4, hgr⟩)
        clear l2 l2d l3 l4 mvF mv4 mv3 mv2 k5 e1 e2 hgr k2 k1 k3 z2 z3 c5 u0 u1 u2 u3 u4 y0 y1 y2 y3
        go_wp2_with fail
        go_region
        all_goals (
          go_wp2_with fail
          (try simp only [Exit.inBlock, Exit.then])
          refine bodyPost_end (v := .tuple #[]) ?_ rfl ⟨rfl, HR.out⟩
          exact res_none rfl _ _ _))
end
end Up
end Go.Proofs.YtpappcmgnnmbeaaDoor
