/- Package upsert: compete. Package bitset's trimmed: the set that words describe, zeros at their end left out. Package bitset's include, where the words are of the call's own. Package bitset: Of, With, Has, Without. Package bitset: Has, Without. -/
import Derived.StillTailTactics
import Derived.BigQuiet
import Derived.Test.YtpappcmgnnmbeaaDoorPk19
import Derived.Test.YtpappcmgnnmbeaaDoorPk09
namespace Go.Proofs.YtpappcmgnnmbeaaDoor
set_option maxRecDepth 20000
open Go.RowKit Go.Maps
namespace Up
open Va (Vl)
open Sc (Sch FitS MayS tr tr_yes tr_no)
theorem cmpW_three (a b : Rw) : cmpW a b = -1 ∨ cmpW a b = 0 ∨ cmpW a b = 1 := by
  unfold cmpW
  have h1 : Va.cmpI a.cmp b.cmp = Va.way (decide (a.cmp < b.cmp)) (decide (b.cmp < a.cmp)) := rfl
  have h2 : Va.cmpI a.off b.off = Va.way (decide (a.off < b.off)) (decide (b.off < a.off)) := rfl
  rw [h1, h2]
  unfold Va.way
  rcases Int.lt_trichotomy a.cmp b.cmp with h | h | h
  · simp [h, Vc.fstN]
  · rcases Int.lt_trichotomy a.off b.off with k | k | k
    · simp [h, k, Vc.fstN]
    · simp [h, k, Vc.fstN]
    · simp [h, k, show ¬ a.off < b.off by omega, Vc.fstN]
  · simp [h, show ¬ a.cmp < b.cmp by omega, Vc.fstN]
section
variable {w w' : World} {t : Nat} {A : Option Addr} {n c : Nat} {s : Sch} {bd bw bs nd nw ns : Nat} {fd fw : Int → Option Value} {W : Vl → Option Rw} {Dc : Int → List Int} {N : Nat} {F : Nat → Prop}
def TieW (W : Vl → Option Rw) (v : Vl) (r : Rw) : Prop := ∃ b, W v = some b ∧ b.cmp = r.cmp ∧ b.off = r.off
/-- The row r has come, with the key v. -/
def comeW (W : Vl → Option Rw) (v : Vl) (r : Rw) : Vl → Option Rw := upd W v (stp (W v) r)
/-- The table behind it. -/
def Come (w w' : World) (t : Nat) (A : Option Addr) (n c : Nat) (s : Sch) (bd bw bs nd ns : Nat) (fd : Int → Option Value) (W : Vl → Option Rw) (Dc : Int → List Int) (N : Nat) (F : Nat → Prop) (v : Vl) (r : Rw) : Prop :=
  ∃ nw' fw' F', Lay w' t A n c s bd bw bs nd nw' (if (W v).isSome then ns else ns + 1) fd fw' (fun x => (comeW W v r x).map Rw.seg) (comeW W v r) Dc (N + 3) F' ∧ ∀ x, F' x → Wd.Gr F w w' x
theorem come_new {w1 : World} {nw' : Nat} {fw' : Int → Option Value} {F' : Nat → Prop} {v : Vl} {r : Rw} (hs : stp (W v) r = some r)
    (h : Lay w' t A n c s bd bw bs nd nw' (if (W v).isSome then ns else ns + 1) fd fw' (upd (fun v => (W v).map Rw.seg) v (some r.seg)) (upd W v (some r)) Dc (N + 3) F') (hF : ∀ x, F' x → Wd.Gr F w1 w' x) (h1 : w.heap.size ≤ w1.heap.size) : Come w w' t A n c s bd bw bs nd ns fd W Dc N F v r := by
  refine ⟨nw', fw', F', ?_, fun x hx => ?_⟩
  · unfold comeW
    rw [hs]
    have : (fun x => (upd W v (some r) x).map Rw.seg) = upd (fun v => (W v).map Rw.seg) v (some r.seg) := funext fun x => by
      unfold upd
      split <;> rfl
    rw [this]
    exact h
  · rcases hF x hx with q | q
    · exact .inl q
    · exact .inr ⟨by omega, q.2⟩
theorem come_old {v : Vl} {r b : Rw} (hb : W v = some b) (hs : ¬ beats r b) (h : Lay w' t A n c s bd bw bs nd nw ns fd fw (fun v => (W v).map Rw.seg) W Dc N F) : Come w w' t A n c s bd bw bs nd ns fd W Dc N F v r := by
  refine ⟨nw, fw, F, ?_, fun x hx => .inl hx⟩
  have e : comeW W v r = W := funext fun x => by
    unfold comeW upd
    split
    · rename_i q
      rw [q, hb]
      exact if_neg hs
    · rfl
  rw [e, hb]
  exact h.mono (by omega)
set_option maxHeartbeats 4000000 in
theorem compete_lay (h : Lay w t A n c s bd bw bs nd nw ns fd fw (fun v => (W v).map Rw.seg) W Dc N F) (hO : SegOk W) {v : Vl} (hv : kV.ok v) {r : Rw} (hr : 0 ≤ r.seg ∧ r.seg ≤ 1073741824) (hN : N + 4 < maxLen) :
    Calls Tryd.prog 47 #[.pointer (some ⟨t, 0, none⟩), .agg #[.int .i64 v.kind, .int .i64 v.i, .string v.s, .bool v.b], .agg #[.int .i64 r.seg, .int .i64 r.doc, .int .i64 r.cmp, .int .i64 r.off, .bool r.gone]] w fun e w' => Wd.Mv F w w' ∧
      ((TieW W v r ∧ e = .returned (.int .i64 5) ∧ Lay w' t A n c s bd bw bs nd nw ns fd fw (fun v => (W v).map Rw.seg) W Dc N F) ∨ (¬ TieW W v r ∧ e = .returned (.int .i64 0) ∧ Come w w' t A n c s bd bw bs nd ns fd W Dc N F v r)) := by
  have hb0 := (Below.refl w.heap.size w).alloc (Nat.le_refl _) (.cells #[.int .i64 v.kind, .int .i64 v.i, .string v.s, .bool v.b] 27)
  have hb1 := hb0.alloc hb0.size (.cells #[.int .i64 r.seg, .int .i64 r.doc, .int .i64 r.cmp, .int .i64 r.off, .bool r.gone] 47)
  have x0 : Bxs ((w.alloc (.cells #[.int .i64 v.kind, .int .i64 v.i, .string v.s, .bool v.b] 27)).alloc (.cells #[.int .i64 r.seg, .int .i64 r.doc, .int .i64 r.cmp, .int .i64 r.off, .bool r.gone] 47)) w.heap.size v r := by
    refine ⟨Wd.Bx.alloc (Wd.Bx.new w _ _) _, ?_⟩
    have := Wd.Bx.new (w.alloc (.cells #[.int .i64 v.kind, .int .i64 v.i, .string v.s, .bool v.b] 27)) 47 #[.int .i64 r.seg, .int .i64 r.doc, .int .i64 r.cmp, .int .i64 r.off, .bool r.gone]
    simpa using this
  obtain ⟨T, hT⟩ : ∃ T, T = (W v).isSome := ⟨_, rfl⟩
  obtain ⟨b, hb⟩ : ∃ b, b = best W v := ⟨_, rfl⟩
  have Cf := Lib.hid fun (wx : World) (hx : Below w.heap.size w wx) => (show Calls Tryd.prog 17 #[.pointer (some ⟨t, 0, none⟩), .agg #[.int .i64 v.kind, .int .i64 v.i, .string v.s, .bool v.b]] wx fun e w' => e = .returned (.tuple #[.agg #[.int .i64 b.seg, .int .i64 b.doc, .int .i64 b.cmp, .int .i64 b.off, .bool b.gone], .bool T]) ∧ Below wx.heap.size wx w' by
    rw [hT, hb]
    exact find_lay (h.below hx) hO hv)
  have Cc := Lib.hid fun (wx : World) (hx : Below w.heap.size w wx) => crown_lay (h.below hx) hO hv hr hN
  have Hh := Lib.hid h
  have hlt := Lib.hid (show ∀ x, F x → x < w.heap.size from fun x hx => h.lt hx)
  have HT := Lib.hid hT
  have Hb := Lib.hid hb
  clear hT hb h hb0
  go_enter Tryd.func47, Tryd.ntmps47
  go_wp2_with fail
  generalize hwa : (w.alloc (.cells #[.int .i64 v.kind, .int .i64 v.i, .string v.s, .bool v.b] 27)).alloc (.cells #[.int .i64 r.seg, .int .i64 r.doc, .int .i64 r.cmp, .int .i64 r.off, .bool r.gone] 47) = wa at *
  have hsz : w.heap.size + 1 < wa.heap.size := x0.2.lt
  clear hwa
  obtain ⟨⟨y0, y1, y2, y3⟩, -⟩ := Vc.four x0.1
  go_wp2_with fail
  refine (Cf.out wa hb1).mono ?_
  rintro e w1 ⟨rfl, hb2⟩
  have hb3 : Below w.heap.size w w1 := hb1.trans (hb2.mono hb1.size)
  have hb4 := hb3.alloc hb3.size (.cells #[.int .i64 b.seg, .int .i64 b.doc, .int .i64 b.cmp, .int .i64 b.off, .bool b.gone] 47)
  have z1 : Bxs (w1.alloc (.cells #[.int .i64 b.seg, .int .i64 b.doc, .int .i64 b.cmp, .int .i64 b.off, .bool b.gone] 47)) w.heap.size v r := ⟨Wd.Bx.alloc (Wd.Bx.below x0.1 (by omega) hb2) _, Wd.Bx.alloc (Wd.Bx.below x0.2 hsz hb2) _⟩
  have z2 := Wd.Bx.new w1 47 #[.int .i64 b.seg, .int .i64 b.doc, .int .i64 b.cmp, .int .i64 b.off, .bool b.gone]
  obtain ⟨⟨v0, v1, v2, v3⟩, -⟩ := Vc.four z1.1
  obtain ⟨u0, u1, u2, u3, u4⟩ := winc z1.2
  obtain ⟨t0, t1, t2, t3, t4⟩ := winc z2
  clear y0 y1 y2 y3 x0 hb2
  cases T
  · have hn : W v = none := by
      rcases q : W v with _ | r0
      · rfl
      · have := HT.out
        rw [q] at this
        cases this
    have HR := Lib.hid hn
    clear hn
    go_wp2_with fail
    refine (Cc.out _ hb4).mono ?_
    rintro e w2 ⟨rfl, mv, nw', fw', F', l2, hg⟩
    go_wp2_with fail
    go_ret
    refine ⟨(Wd.Mv.of_below hb4).then mv, .inr ⟨fun ⟨b, h1, _⟩ => ?_, rfl, come_new (by rw [HR.out]; rfl) l2 hg hb4.size⟩⟩
    rw [HR.out] at h1
    cases h1
  · have hs : W v = some b := by
      rcases q : W v with _ | r0
      · have := HT.out
        rw [q] at this
        cases this
      · have := Hb.out
        unfold best at this
        rw [q] at this
        rw [this]
        rfl
    have HS := Lib.hid hs
    clear hs
    have Cw := compare_any r b
    have hc := cmpW_is r b
    rcases cmpW_three r b with hz | hz | hz
    · rw [hz] at Cw
      have hne : ¬ beats r b ∧ ¬ (b.cmp = r.cmp ∧ b.off = r.off) := ⟨fun q => by have := hc.1.2 q; omega, fun q => by have := hc.2.2 q; omega⟩
      have HN := Lib.hid hne
      have Cw := Lib.hid Cw
      clear hc hz hne
      go_wp2_with fail
      refine (Cw.out _).mono ?_
      rintro e w2 ⟨rfl, hb5⟩
      go_wp2_with fail
      go_ret
      have hb6 := hb4.trans (hb5.mono hb4.size)
      refine ⟨Wd.Mv.of_below hb6, .inr ⟨fun ⟨b', h1, h2⟩ => ?_, rfl, come_old HS.out HN.out.1 (Hh.out.below hb6)⟩⟩
      rw [HS.out] at h1
      cases h1
      exact HN.out.2 h2
    · rw [hz] at Cw
      have hne := hc.2.1 hz
      have HN := Lib.hid hne
      have Cw := Lib.hid Cw
      clear hc hz hne
      go_wp2_with fail
      refine (Cw.out _).mono ?_
      rintro e w2 ⟨rfl, hb5⟩
      go_wp2_with fail
      go_ret
      have hb6 := hb4.trans (hb5.mono hb4.size)
      exact ⟨Wd.Mv.of_below hb6, .inl ⟨⟨b, HS.out, HN.out⟩, rfl, Hh.out.below hb6⟩⟩
    · rw [hz] at Cw
      have hne : beats r b ∧ ¬ (b.cmp = r.cmp ∧ b.off = r.off) := ⟨hc.1.1 hz, fun q => by have := hc.2.2 q; omega⟩
      have HN := Lib.hid hne
      have Cw := Lib.hid Cw
      clear hc hz hne
      go_wp2_with fail
      refine (Cw.out _).mono ?_
      rintro e w2 ⟨rfl, hb5⟩
      have hb6 := hb4.trans (hb5.mono hb4.size)
      have z3 : Bxs w2 w.heap.size v r := ⟨Wd.Bx.below z1.1 (Wd.Bx.lt z1.1) hb5, Wd.Bx.below z1.2 z1.2.lt hb5⟩
      obtain ⟨⟨v0, v1, v2, v3⟩, -⟩ := Vc.four z3.1
      obtain ⟨u0, u1, u2, u3, u4⟩ := winc z3.2
      go_wp2_with fail
      refine (Cc.out _ hb6).mono ?_
      rintro e w3 ⟨rfl, mv, nw', fw', F', l2, hg⟩
      go_wp2_with fail
      go_ret
      refine ⟨(Wd.Mv.of_below hb6).then mv, .inr ⟨fun ⟨b', h1, h2⟩ => ?_, rfl, come_new (by rw [HS.out]; exact if_pos HN.out.1) l2 hg hb6.size⟩⟩
      rw [HS.out] at h1
      cases h1
      exact HN.out.2 h2
end
end Up
end Go.Proofs.YtpappcmgnnmbeaaDoor
namespace Go.Proofs.YtpappcmgnnmbeaaDoor
set_option maxRecDepth 20000
open Go.RowKit
namespace Bw
open Bs Bx Bi
theorem res_cell1 {fn : Func} {p : Tmp} {ty : TypeId} (h : fn.results = #[.cell p ty]) (tmps : Array Value) (P : Program) (w : World) :
    (results fn tmps).run P w = ((asAddr (tmps.getD p undef)).run P w).andThen fun a w₁ => (loadVar ty a).run P w₁ := by
  simp only [results, h]
  simp [Sem.run_bind, Result.andThen]
theorem st_cut {w : World} {A : Option Addr} {n c k : Nat} {L : List Nat} (hS : Wd.Sl w .u64 A n c (nat L)) (hk : k ≤ n) (ht : Wo (L.take k) ∧ Tr (L.take k) ∧ lstW (L.take k) = lstW L) (o : Obj) : St (w.alloc o) A k c (lstW L) := by
  have h := (hS.below ((Below.refl w.heap.size w).alloc (Nat.le_refl _) o)).head k hk
  rw [nat_take] at h
  exact ⟨L.take k, h, ht.1, ht.2.1, ht.2.2.symm⟩
end Bw
end Go.Proofs.YtpappcmgnnmbeaaDoor
namespace Go.Proofs.YtpappcmgnnmbeaaDoor
set_option maxRecDepth 20000
open Go.RowKit
namespace Bw
open Bs Bx Bi
/-- What include answers. -/
def IncA (w : World) (B : Nat) (M : List Nat) (e : Ending) (w' : World) : Prop := ∃ v', e = .returned v' ∧ Ow w' B v' M ∧ Below B w w'
set_option maxHeartbeats 4000000 in
theorem include_any (B : Nat) (v : Value) (L : List Nat) (i : Int) (w : World) (h : Ow w B v L) (hw : Wo L) (hB : B ≤ w.heap.size) :
    Calls Tryd.prog 65 #[v, .int .i64 i] w (IncA w B (incI L i)) := by
  have Bit := Lib.hid fun k hk w => bit_any k hk w
  by_cases h0 : 0 ≤ i
  case neg =>
    have hlt : i < 0 := by omega
    rw [incI_out (by omega)]
    clear h0
    go_enter Tryd.func65, Tryd.ntmps65
    go_wp2
    go_ret
    exact ⟨_, rfl, h, Below.refl _ _⟩
  by_cases h1 : i < 65536
  case neg =>
    have hge : 65536 ≤ i := by omega
    rw [incI_out (by omega)]
    clear h1
    go_enter Tryd.func65, Tryd.ntmps65
    go_wp2
    go_ret
    exact ⟨_, rfl, h, Below.refl _ _⟩
  obtain ⟨k, hik⟩ : ∃ k : Nat, i = (k : Int) := ⟨i.toNat, by omega⟩
  have hk : k < 65536 := by omega
  have Ck := Lib.hid fun w => bit_any k hk w
  have hin0 : incI L i = incL L k := by rw [hik]; exact incI_in hk
  rw [← hik] at Ck
  obtain ⟨y, hy⟩ : ∃ y, y = 2 ^ (k % 64) := ⟨_, rfl⟩
  rw [← hy] at Ck
  have hy1 : y < 18446744073709551616 := by rw [hy]; exact pow_lt k
  obtain ⟨q, hq⟩ : ∃ q, q = k / 64 := ⟨_, rfl⟩
  have eq1 : i / 64 = (q : Int) := by omega
  have hq1 : q < 1024 := by omega
  have et : IntKind.i64.wrap (i.tdiv 64) = (q : Int) := by rw [Int.tdiv_eq_ediv_of_nonneg h0, eq1, IntKind.wrap_i64]; omega
  have Hin := Lib.hid (show incI L i = (pad L (q + 1)).set q (L.getD q 0 ||| y) by rw [hin0, hq, hy]; rfl)
  have Hor := Lib.hid (u64_or_nat (L.getD q 0) y (hw.2 q) hy1)
  have HW := Lib.hid hw
  clear hq hy hk hw Bit hy1 hin0 hik
  by_cases hqL : q < L.length
  · obtain ⟨g, c, rfl, hBg, hgw, hnc, hcm⟩ := h.shape (by omega)
    obtain ⟨hc, hf⟩ := h.cell rfl q hqL
    have Ho := Lib.hid h
    have Hqn := Lib.hid hqL
    obtain ⟨n, hn⟩ : ∃ n, n = L.length := ⟨_, rfl⟩
    obtain ⟨x, hx⟩ : ∃ x, x = L.getD q 0 := ⟨_, rfl⟩
    rw [← hn] at hnc hqL ⊢
    rw [← hx] at hc
    have hqi : (q : Int) < (n : Int) := by omega
    have hq0 : (0 : Int) ≤ (q : Int) := by omega
    have hn1 : n ≤ 1024 := by rw [hn]; exact HW.out.1
    have Hn := Lib.hid hn
    have Hx := Lib.hid hx
    unfold maxLen at hcm
    clear hn hx h
    go_enter Tryd.func65, Tryd.ntmps65
    go_wp2_with fail
    refine wp_region_still_tail 9 (by kernel_rfl) (by kernel_rfl) ?_
    simp only [List.take_succ_cons, List.take_zero, List.drop_succ_cons, List.drop_zero]
    repeat (first | still_call (Ck.out _) | still_step)
    try refine wpStill_nil ?_
    change wpList _ _ _ _ _ w.drew
    go_wp2_with fail
    go_ret
    rw [Hx.out, Hor.out, Hin.out, pad_le (by have := Hqn.out; omega), Hn.out]
    exact ⟨_, rfl, Ow.set (w := w.drew) Ho.out rfl q _, (Below.refl _ _).drew.setCell hBg _⟩
  · obtain ⟨A, n, c, rfl, hS⟩ := h.sl
    have hn : n = L.length := by rw [hS.len, nat_len]
    have hqi : ¬ (q : Int) + 1 ≤ (n : Int) := by omega
    have hcap := hS.cap
    have hmx := hS.max
    unfold maxLen at hmx
    have hn1 : n ≤ 1024 := by rw [hn]; exact HW.out.1
    have Hn := Lib.hid hn
    have Ho := Lib.hid h
    have HqL := Lib.hid hqL
    clear hn h hqL hS
    obtain ⟨m, hm⟩ : ∃ m, m = q + 1 - n := ⟨_, rfl⟩
    have em : (q : Int) + 1 - (n : Int) = (m : Int) := by omega
    have hm0 : 0 < m := by omega
    have Hm := Lib.hid hm
    clear hm
    go_enter Tryd.func65, Tryd.ntmps65
    go_wp2_with (at_builtin; refine wpList_zeros _ rfl (.tmp 21) (.tmp 22) rfl B (.slice A n c) L rfl Ho.out _ m rfl rfl hm0 (by have := Hn.out; have := Hm.out; omega) hB ?_; intro v1 w1 hO1 hG1)
    have hb1 : Below B w w1 := (Below.refl B w).grown hG1 hB fun k hk => (World.ownsRow.lt Ho.out k hk).1
    have hM : L ++ List.replicate m 0 = pad L (q + 1) := by unfold pad; rw [Hm.out, Hn.out]
    have hMl : (L ++ List.replicate m 0).length = q + 1 := by have := Hn.out; have := Hm.out; simp; omega
    obtain ⟨g, c1, rfl, hBg, hgw, hnc, hcm⟩ := hO1.shape (by omega)
    obtain ⟨hc, hf⟩ := hO1.cell rfl q (by omega)
    have Ho1 := Lib.hid hO1
    rw [hM, pad_getD] at hc
    obtain ⟨x, hx⟩ : ∃ x, x = L.getD q 0 := ⟨_, rfl⟩
    rw [← hx] at hc
    have Hx := Lib.hid hx
    have HM := Lib.hid hM
    obtain ⟨N, hN⟩ : ∃ N, N = (L ++ List.replicate m 0).length := ⟨_, rfl⟩
    rw [← hN] at hnc ⊢
    have hq0 : (0 : Int) ≤ (q : Int) := by omega
    have hq2 : (q : Int) < (N : Int) := by omega
    have HN := Lib.hid hN
    unfold maxLen at hcm
    clear hM hMl hx hO1 hG1 hN
    refine wp_region_still_tail 9 (by kernel_rfl) (by kernel_rfl) ?_
    simp only [List.take_succ_cons, List.take_zero, List.drop_succ_cons, List.drop_zero]
    repeat (first | still_call (Ck.out _) | still_step)
    try refine wpStill_nil ?_
    change wpList _ _ _ _ _ w1.drew
    go_wp2_with fail
    go_ret
    rw [Hx.out, Hor.out, Hin.out, ← HM.out]
    exact ⟨_, rfl, Ow.set (w := w1.drew) (by rw [HN.out]; exact Ho1.out) HN.out q _, hb1.drew.setCell hBg _⟩
end Bw
end Go.Proofs.YtpappcmgnnmbeaaDoor
namespace Go.Proofs.YtpappcmgnnmbeaaDoor
set_option maxRecDepth 20000
open Go.RowKit
namespace Bw
open Bs Bx Bi
theorem st_own {w : World} {A : Option Addr} {n c : Nat} {L : List Nat} {B : Nat} (h : Ow w B (.slice A n c) L) (hw : Wo L) (ht : Tr L) (o : Obj) : St (w.alloc o) A n c (lstW L) := by
  obtain ⟨A', n', c', e, hS⟩ := h.sl
  cases e
  exact ⟨L, hS.below ((Below.refl _ _).alloc (Nat.le_refl _) o), hw, ht, rfl⟩
theorem st_at {w : World} {A : Option Addr} {n c : Nat} {L : List Nat} {B : Nat} (h : Ow w B (.slice A n c) L) (hw : Wo L) (ht : Tr L) : St w A n c (lstW L) := by
  obtain ⟨A', n', c', e, hS⟩ := h.sl
  cases e
  exact ⟨L, hS, hw, ht, rfl⟩
theorem Ow.other {w : World} {B b : Nat} {v u : Value} {L : List Nat} (h : Ow w B v L) (hb : b < B) : Ow (w.setCell ⟨b, 0, none⟩ u) B v L := by
  have hg : w.grownBy (w.setCell ⟨b, 0, none⟩ u) (some b) := ⟨rfl, rfl, rfl, by simp, fun k _ hk => heap_setCell_other w _ k u (fun e => hk (by rw [e]))⟩
  refine World.ownsRow.kept h hg ?_
  cases hv : v.ownBlock with
  | none => exact .inl rfl
  | some g => exact .inr fun e => by have := (World.ownsRow.lt h g hv).1; cases e; omega
theorem take_next (l : List Int) (k : Nat) (h : k < l.length) : l.take (k + 1) = l.take k ++ [l.getD k 0] := by
  rw [List.take_succ_eq_append_getElem h]
  simp [List.getD, h]
set_option maxHeartbeats 4000000 in
theorem of_any (A : Option Addr) (n c : Nat) (l : List Int) (w : World) (hS : Wd.Sl w .i64 A n c l) (hn : n ≤ 1000000) :
    Calls Tryd.prog 42 #[.slice A n c] w (Gv St w (ofL l)) := by
  have hb0 := (Below.refl w.heap.size w).alloc (Nat.le_refl _) (.cells #[.slice none 0 0] 54)
  have x0 : Wd.Var (w.alloc (.cells #[.slice none 0 0] 54)) w.heap.size 54 (.slice none 0 0) := Wd.Var.new _ _ _
  have hsz : (w.alloc (.cells #[.slice none 0 0] 54)).heap.size = w.heap.size + 1 := by simp
  have hcap := hS.cap
  have hmx := hS.max
  unfold maxLen at hmx
  have HS := Lib.hid hS
  have Hl := Lib.hid hS.len
  have Inc := Lib.hid fun B v L i w h hw hB => include_any B v L i w h hw hB
  have hI0 : ∃ v, Value.slice none 0 0 = v ∧ Ow (w.alloc (.cells #[.slice none 0 0] 54)) (w.heap.size + 1) v [] := ⟨_, rfl, Ow.nil _ _⟩
  clear hS
  go_enter Tryd.func42, Tryd.ntmps42
  go_wp2_with fail
  go_loopw [3, 8] (fun v j wr => ∃ k : Nat, j = .int .i64 k ∧ k ≤ n ∧ Ow wr (w.heap.size + 1) v ((l.take k).foldl incI []) ∧ Below (w.heap.size + 1) (w.alloc (.cells #[.slice none 0 0] 54)) wr) (fun _ j _ => n - (intOf j).toNat)
  case atStart => exact ⟨0, rfl, Nat.zero_le _, by obtain ⟨v, rfl, h⟩ := hI0; exact h, Below.refl _ _⟩
  case round =>
    obtain ⟨k, rfl, hk, hO, hB⟩ := hrel
    by_cases hlt : k < n
    · have hkl : k < l.length := by rw [← Hl.out]; exact hlt
      have hS2 := HS.out.below (hb0.trans (hB.mono (by omega)))
      obtain ⟨b, o, hA, hb, hc⟩ := hS2.rd k hkl
      subst hA
      have hkI : (k : Int) < n := by omega
      have Ht := Lib.hid (take_next l k hkl)
      obtain ⟨x, hx⟩ : ∃ x, x = l.getD k 0 := ⟨_, rfl⟩
      rw [← hx] at hc
      have Hx := Lib.hid hx
      have C := Lib.hid (Inc.out (w.heap.size + 1) _ _ x _ hO (fold_wo _ _ wo_nil) (by rw [← hsz]; exact hB.size))
      have HO := Lib.hid hO
      clear hx hkl hS2 hO
      go_wp2_with fail
      refine C.out.mono ?_
      rintro e w2 ⟨v2, rfl, hO2, hB2⟩
      go_wp2_with fail
      go_roundw
      case rel => exact ⟨k + 1, by go_num, by omega, by rw [Ht.out, List.foldl_append, ← Hx.out]; exact hO2, hB.trans hB2⟩
      case measure => simp [intOf]; omega
    · have hkI : ¬ (k : Int) < n := by omega
      have x1 : Wd.Var _ w.heap.size 54 (.slice none 0 0) := (hB.block w.heap.size (by omega)).trans x0
      have c1 := x1.cell
      have f1 := x1.free
      rw [List.take_of_length_le (by rw [← Hl.out]; omega)] at hO
      obtain ⟨A1, n1, c1, rfl, -⟩ := hO.sl
      have HO := Lib.hid hO
      have HB := Lib.hid hB
      clear hO hB x0
      go_wp2_with fail
      have c2 := (Wd.Var.set (u := .slice A1 n1 c1) x1).cell
      (try simp only [Exit.inBlock, Exit.then])
      refine bodyPost_ret (v := .agg #[.slice A1 n1 c1]) ?_ rfl ⟨_, _, _, rfl, ?_, ?_⟩
      · rw [res_cell1 rfl]; go_simp
      · rw [← of_lst]
        exact st_at (HO.out.other (by omega)) (fold_wo _ _ wo_nil) (fold_tr _ _ tr_nil)
      · exact (hb0.trans (HB.out.mono (by omega))).setCell (Nat.le_refl _) _
set_option maxHeartbeats 4000000 in
theorem with_any (A : Option Addr) (n c : Nat) (X : List Int) (i : Int) (w : World) (hS : St w A n c X) :
    Calls Tryd.prog 49 #[.agg #[.slice A n c], .int .i64 i] w (Gv St w (withL X i)) := by
  obtain ⟨L, hS, hw, ht, rfl⟩ := hS
  have hb0 := (Below.refl w.heap.size w).alloc (Nat.le_refl _) (.cells #[.slice A n c] 54)
  have hb1 := hb0.alloc (by simp) (.cells #[.slice none 0 0] 54)
  have hsz : ((w.alloc (.cells #[.slice A n c] 54)).alloc (.cells #[.slice none 0 0] 54)).heap.size = w.heap.size + 1 + 1 := by simp
  have x1 : Wd.Var ((w.alloc (.cells #[.slice A n c] 54)).alloc (.cells #[.slice none 0 0] 54)) (w.heap.size + 1) 54 (.slice none 0 0) := by
    have := Wd.Var.new (w.alloc (.cells #[.slice A n c] 54)) 54 (.slice none 0 0)
    rwa [World.size_alloc] at this
  have C1 := Lib.hid (clone_any A n c L _ (hS.below hb1) hw.1)
  rw [hsz] at C1
  have Inc := Lib.hid fun v w' (h : Ow w' (w.heap.size + 1 + 1) v L) hB => include_any (w.heap.size + 1 + 1) v L i w' h hw hB
  have Hw := Lib.hid hw
  have Ht := Lib.hid ht
  have Hb1 := Lib.hid hb1
  clear hS hw ht hb0 hb1
  go_enter Tryd.func49, Tryd.ntmps49
  go_wp2_with fail
  refine C1.out.mono ?_
  rintro e w2 ⟨v2, rfl, hO2, hB2⟩
  have C2 := Lib.hid (Inc.out v2 w2 hO2 (by rw [← hsz]; exact hB2.size))
  go_wp2_with fail
  refine C2.out.mono ?_
  rintro e w3 ⟨v3, rfl, hO3, hB3⟩
  obtain ⟨A3, n3, c3, rfl, -⟩ := hO3.sl
  have hB4 := hB2.trans hB3
  have x3 : Wd.Var w3 (w.heap.size + 1) 54 (.slice none 0 0) := (hB4.block (w.heap.size + 1) (by omega)).trans x1
  have c1 := x3.cell
  have f1 := x3.free
  have c2 := (Wd.Var.set (u := .slice A3 n3 c3) x3).cell
  have HO := Lib.hid hO3
  have HB := Lib.hid hB4
  clear hO3 hB4 hB2 hB3 hO2 x1
  go_wp2_with fail
  (try simp only [Exit.inBlock, Exit.then])
  refine bodyPost_ret (v := .agg #[.slice A3 n3 c3]) ?_ rfl ⟨_, _, _, rfl, ?_, ?_⟩
  · rw [res_cell1 rfl]; go_simp
  · rw [← incI_lst i Hw.out]
    exact st_at (HO.out.other (by omega)) (incI_wo i Hw.out) (incI_tr i Ht.out)
  · exact (Hb1.out.trans (HB.out.mono (by omega))).setCell (by show w.heap.size ≤ w.heap.size + 1; omega) _
end Bw
end Go.Proofs.YtpappcmgnnmbeaaDoor
namespace Go.Proofs.YtpappcmgnnmbeaaDoor
set_option maxRecDepth 20000
open Go.RowKit
namespace Bw
open Bs Bx Bi
set_option maxHeartbeats 4000000 in
theorem has_any (A : Option Addr) (n c : Nat) (X : List Int) (i : Int) (w : World) (hS : St w A n c X) (hi : I64 i) :
    Calls Tryd.prog 28 #[.agg #[.slice A n c], .int .i64 i] w fun e w' => e = .returned (.bool (decide (i ∈ X))) ∧ Below w.heap.size w w' := by
  obtain ⟨L, hS, hw, ht, rfl⟩ := hS
  have hb0 := (Below.refl w.heap.size w).alloc (Nat.le_refl _) (.cells #[.slice A n c] 54)
  have c0 := box1 w A n c
  have hcap := hS.cap
  have hmx := hS.max
  unfold maxLen at hmx
  have hn : n = L.length := by rw [hS.len, nat_len]
  have hn1 : n ≤ 1024 := by rw [hn]; exact hw.1
  have HS := Lib.hid (hS.below hb0)
  have Hn := Lib.hid hn
  have Hw := Lib.hid hw
  have Hb := Lib.hid hb0
  obtain ⟨i0, i1⟩ := hi
  clear hS hn hw ht hb0
  obtain ⟨r, hr⟩ : ∃ r, r = decide (i ∈ lstW L) := ⟨_, rfl⟩
  rw [← hr]
  have Hr := Lib.hid hr
  clear hr
  by_cases h0 : 0 ≤ i
  case neg =>
    have e := Lib.hid (show r = false by rw [Hr.out, decide_eq_false]; intro q; exact h0 ((mem_lstW L i).1 q).1)
    have hd : decide (0 ≤ i) = false := decide_eq_false h0
    go_enter Tryd.func28, Tryd.ntmps28
    go_wp2_with fail
    go_quiet (fail)
    go_wp2_with fail
    go_ret
    exact ⟨by rw [e.out]; rfl, Wd.below_drewN Hb.out _⟩
  obtain ⟨k, hik⟩ : ∃ k : Nat, i = (k : Int) := ⟨i.toNat, by omega⟩
  obtain ⟨q, hq⟩ : ∃ q, q = k / 64 := ⟨_, rfl⟩
  have eq1 : i / 64 = (q : Int) := by omega
  have et : IntKind.i64.wrap (i.tdiv 64) = (q : Int) := by rw [Int.tdiv_eq_ediv_of_nonneg h0, eq1, IntKind.wrap_i64]; omega
  have hd : decide (0 ≤ i) = true := decide_eq_true h0
  have hq0 : (0 : Int) ≤ (q : Int) := by omega
  by_cases hqn : q < n
  case neg =>
    have e := Lib.hid (show r = false by
      rw [Hr.out, decide_eq_false]
      rw [hik]
      exact mem_out (by rw [← hq, ← Hn.out]; omega))
    have hd2 : decide (q < n) = false := decide_eq_false hqn
    clear hq hqn hik
    go_enter Tryd.func28, Tryd.ntmps28
    go_wp2_with fail
    go_quiet (fail)
    go_wp2_with fail
    go_ret
    exact ⟨by rw [e.out]; rfl, Wd.below_drewN Hb.out _⟩
  have hq1 : q < 1024 := by omega
  have hk : k < 65536 := by omega
  have Ck := Lib.hid fun w => bit_any k hk w
  rw [← hik] at Ck
  obtain ⟨y, hy⟩ : ∃ y, y = 2 ^ (k % 64) := ⟨_, rfl⟩
  rw [← hy] at Ck
  have Cq := Lib.hid fun w => ((Ck.out w).mono fun _ _ h => ⟨h.1, 0, h.2⟩ : Calls Tryd.prog 54 #[.int .i64 i] w fun e w' => e = .returned (.int .u64 (y : Int)) ∧ ∃ n, w' = w.drewN n)
  have hy1 : y < 18446744073709551616 := by rw [hy]; exact pow_lt k
  have hql : q < L.length := by rw [← Hn.out]; exact hqn
  have HA := Lib.hid (u64_and_nat (L.getD q 0) y (Hw.out.2 q) hy1)
  have Hm := Lib.hid (mem_bit L k)
  rw [← hq, ← hy, ← hik] at Hm
  obtain ⟨b, o, hA, hb, hc⟩ := HS.out.rd q (by rw [nat_len]; exact hql)
  subst hA
  rw [nat_getD] at hc
  obtain ⟨x, hx⟩ : ∃ x, x = L.getD q 0 := ⟨_, rfl⟩
  rw [← hx] at hc HA Hm
  obtain ⟨z, hz⟩ : ∃ z, z = x &&& y := ⟨_, rfl⟩
  rw [← hz] at HA Hm
  have ha : bits .and .u64 (x : Int) (y : Int) = (z : Int) := HA.out
  have hd2 : decide ((q : Int) < (n : Int)) = true := decide_eq_true (by omega)
  have hqi : (q : Int) < (n : Int) := by omega
  have hzr : ((z : Int) != 0) = r := by
    rw [Hr.out]
    by_cases q0 : z = 0
    · rw [decide_eq_false fun h => Hm.out.1 h q0, q0]; rfl
    · rw [decide_eq_true (Hm.out.2 q0)]
      simpa using q0
  clear hq hqn hik hy hx hz hy1 hk hql HA
  go_enter Tryd.func28, Tryd.ntmps28
  go_wp2_with fail
  go_quiet (first | (go_at_call 54; refine Calls.quiet_of (Cq.out _)))
  go_wp2_with fail
  go_ret
  exact ⟨rfl, Wd.below_drewN Hb.out _⟩
/-- A variable of a struct is no word. -/
theorem sl_other {w : World} {A B : Option Addr} {n c m d : Nat} {ys : List Int} {p : Addr} {u : Value} (h : Wd.Sl w .u64 A n c ys) (hp : w.cell? p = some (.slice B m d)) : Wd.Sl (w.setCell p u) .u64 A n c ys :=
  ⟨h.len, h.cap, h.max, h.nil, fun j hj => by
    obtain ⟨b, o, e, hlt, hc⟩ := h.rd j hj
    exact ⟨b, o, e, by simpa using hlt, (World.cell?_setCell_other _ _ _ _ (by rintro rfl; rw [hc] at hp; cases hp)).trans hc⟩⟩
theorem St.other {w : World} {A B : Option Addr} {n c m d : Nat} {X : List Int} {p : Addr} {u : Value} (h : St w A n c X) (hp : w.cell? p = some (.slice B m d)) : St (w.setCell p u) A n c X := by
  obtain ⟨L, a, b, c, e⟩ := h
  exact ⟨L, sl_other a hp, b, c, e⟩
theorem not_mem_out {L : List Nat} {i : Int} (h : ¬ 0 ≤ i) : i ∉ lstW L := fun q => h ((mem_lstW L i).1 q).1
end Bw
end Go.Proofs.YtpappcmgnnmbeaaDoor
