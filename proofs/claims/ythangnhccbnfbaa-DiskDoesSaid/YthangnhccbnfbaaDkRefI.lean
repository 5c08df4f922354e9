/- What the statement's function did does: one call of the reference's disk. -/
import Derived.Test.YthangnhccbnfbaaDkRefE
import Derived.Test.YthangnhccbnfbaaDkRefG
import Derived.Test.YthangnhccbnfbaaDkRefH
namespace Go.Proofs.Ythangnhccbnfbaa
open Go.RowKit Go.Maps
namespace Dk
open Wd (Opr Op1)
theorem Rsk.grow {w : World} {r : Nat} {H H' : Nat → Prop} {S : Pd} (h : Rsk w r H S) (h1 : ∀ g, H g → H' g) (h2 : ∀ g, H' g → g < w.heap.size) : Rsk w r H' S := by
  obtain ⟨v, L, am, lf, h3, h4⟩ := h
  exact ⟨v, L, am, lf, h3.grow h1 h2, h4⟩
def Did5 (w : World) (d : Nat) (G : Nat → Prop) (S : Pd) (n : Int) (w' : World) : Prop := Wd.Mv G w w' ∧ Rsk w' d (Wd.Gr G w w') (armed S n)
theorem RDid.base {w w0 w' : World} {d : Nat} {G : Nat → Prop} {r : Int × Pd} {e : Ending} (h : RDid w0 d G r e w') (bd : ∀ g, G g → g < w.heap.size) (hb : Below w.heap.size w w0) : RDid w d G r e w' := by
  obtain ⟨h1, h2, h3⟩ := h
  have mv : Wd.Mv G w w' := (Wd.Mv.of_below hb).then h2
  refine ⟨h1, mv, h3.grow (fun g hg => ?_) (Wd.Gr.lt bd mv.size)⟩
  have := hb.size
  rcases hg with q | q
  · exact .inl q
  · exact .inr (by omega)
theorem RDid0.base {w w0 w' : World} {d : Nat} {G : Nat → Prop} {S : Pd} {e : Ending} (h : RDid0 w0 d G S e w') (bd : ∀ g, G g → g < w.heap.size) (hb : Below w.heap.size w w0) : RDid0 w d G S e w' := by
  obtain ⟨h1, h2, h3⟩ := h
  have mv : Wd.Mv G w w' := (Wd.Mv.of_below hb).then h2
  refine ⟨h1, mv, h3.grow (fun g hg => ?_) (Wd.Gr.lt bd mv.size)⟩
  have := hb.size
  rcases hg with q | q
  · exact .inl q
  · exact .inr (by omega)
section
variable {w : World} {d : Nat} {G : Nat → Prop} {S : Pd}
set_option maxHeartbeats 2000000 in
theorem did_mv (h : Rsk w d G S) (o : Opr) (ho' : ∀ W, Wd.Mv G w W → Op1 W o) (hs : Sm o) :
    Calls Try.prog 13 #[pt d, .agg o.vals.toArray] w (RDid w d G (doesS S o)) := by
  obtain ⟨kind, num, name, bA, bn, bc, b, kA, kn, kc, keep⟩ := o
  obtain ⟨ob, -, okf, ow0, ow1⟩ := ho' w (Wd.Mv.refl _ _)
  obtain ⟨s1, s2, s3⟩ := hs
  simp only [] at ob okf ow0 ow1 s1 s2 s3
  have hbn : bn ≤ 1000000 := by rw [ob.len]; omega
  have hbx := (Below.refl w.heap.size w).alloc (Nat.le_refl _) (.cells #[.int .i64 kind, .int .i64 num, .string name, .slice bA bn bc, .slice kA kn kc] 36)
  have h' := h.below hbx
  have hmv : ∀ W, Wd.Mv G (w.alloc (.cells #[.int .i64 kind, .int .i64 num, .string name, .slice bA bn bc, .slice kA kn kc] 36)) W → Wd.Mv G w W := fun W hW => (Wd.Mv.of_below hbx).then hW
  have hw := bounds_i64 ow1
  have c0 := (rcreate_any h' name).mono fun _ _ q => q.base h.bd hbx
  have c1 := (rappend_any h' name bA bn bc b (fun W hW => (ho' W (hmv W hW)).b) hbn).mono fun _ _ q => q.base h.bd hbx
  have c2 := (rsync_any h' name).mono fun _ _ q => q.base h.bd hbx
  have c3 := (rdelete_any h' name).mono fun _ _ q => q.base h.bd hbx
  have c4 := (rroom_any h' num).mono fun _ _ q => q.base h.bd hbx
  have c6 := (rcrash_any h' kA kn kc keep (fun W hW => (ho' W (hmv W hW)).k) okf).mono fun _ _ q => q.base h.bd hbx
  have hz : Wd.Mv G w (w.alloc (.cells #[.int .i64 kind, .int .i64 num, .string name, .slice bA bn bc, .slice kA kn kc] 36)) ∧ Rsk (w.alloc (.cells #[.int .i64 kind, .int .i64 num, .string name, .slice bA bn bc, .slice kA kn kc] 36)) d (Wd.Gr G w (w.alloc (.cells #[.int .i64 kind, .int .i64 num, .string name, .slice bA bn bc, .slice kA kn kc] 36))) S := ⟨Wd.Mv.of_below hbx, Rsk.gr h' hbx.size h.bd⟩
  clear ho' hmv
  clear hbx
  simp only [Opr.vals]
  by_cases k0 : kind = 0
  · subst k0
    go_enter Try.func13, Try.ntmps13
    go_wp2_with fail
    refine c0.mono ?_
    rintro e w1 ⟨rfl, h1⟩
    go_wp2_with fail
    go_ret
    exact ⟨rfl, h1⟩
  by_cases k1 : kind = 1
  · subst k1
    go_enter Try.func13, Try.ntmps13
    go_wp2_with fail
    refine c1.mono ?_
    rintro e w1 ⟨rfl, h1⟩
    go_wp2_with fail
    go_ret
    exact ⟨rfl, h1⟩
  by_cases k2 : kind = 2
  · subst k2
    go_enter Try.func13, Try.ntmps13
    go_wp2_with fail
    refine c2.mono ?_
    rintro e w1 ⟨rfl, h1⟩
    go_wp2_with fail
    go_ret
    exact ⟨rfl, h1⟩
  by_cases k3 : kind = 3
  · subst k3
    go_enter Try.func13, Try.ntmps13
    go_wp2_with fail
    refine c3.mono ?_
    rintro e w1 ⟨rfl, h1⟩
    go_wp2_with fail
    go_ret
    exact ⟨rfl, h1⟩
  by_cases k4 : kind = 4
  · subst k4
    go_enter Try.func13, Try.ntmps13
    go_wp2_with fail
    refine c4.mono ?_
    rintro e w1 ⟨rfl, h1⟩
    go_wp2_with fail
    go_ret
    exact ⟨rfl, h1⟩
  by_cases k5 : kind = 5
  · subst k5
    obtain ⟨v, L, am, lf, hl, hp, ok, hA, hlw⟩ := h'
    have f2 := hl.box.free 2
    have f3 := hl.box.free 3
    have b2 := hl.box.cell 2
    have b3 := hl.box.cell 3
    simp at b2 b3
    obtain ⟨W1, hW1⟩ : ∃ W1, W1 = w.alloc (.cells #[.int .i64 5, .int .i64 num, .string name, .slice bA bn bc, .slice kA kn kc] 36) := ⟨_, rfl⟩
    have okA : (armed S num).Ok := ok.armed hw.1 hw.2
    have hN : ∀ bb : Bool, Am bb num num → Did5 w d G S num ((W1.setCell ⟨d, 2, none⟩ (.bool bb)).setCell ⟨d, 3, none⟩ (.int .i64 num)) := fun bb hAm => by
      have hb := (hl.box.set 2 (.bool bb)).set 3 (.int .i64 num)
      rw [← hW1] at hb
      have hg : W1.grownBy ((W1.setCell ⟨d, 2, none⟩ (.bool bb)).setCell ⟨d, 3, none⟩ (.int .i64 num)) (some d) := ⟨rfl, rfl, rfl, by simp [World.setCell], fun k _ hk => (Below.heap_setCell _ _ _ _ (by simpa using hk)).trans (Below.heap_setCell _ _ _ _ (by simpa using hk))⟩
      have ht := (hW1 ▸ hl).turn_box (by simpa using hb) hg
      have m1 : Wd.Mv G w W1 := by rw [hW1]; exact hz.1
      have m2 := m1.then (mv_one hg hl.hr)
      exact ⟨m2, Rsk.gr ⟨v, L, bb, num, ht, hp, okA, hAm, ow1⟩ m2.size h.bd⟩
    have hN' := Lib.hid hN
    have hW1' := Lib.hid hW1
    have e1 : doesS S ⟨5, num, name, bA, bn, bc, b, kA, kn, kc, keep⟩ = (0, armed S num) := rfl
    rw [e1]
    clear hN hW1 e1 c0 c1 c2 c3 c4 c6 hl hz ob hp
    by_cases hn0 : 0 ≤ num
    · have g1 : decide (0 ≤ num) = true := decide_eq_true hn0
      have hq := Lib.hid (hN'.out true ⟨fun _ => ⟨rfl, hn0⟩, fun q => by cases q⟩)
      clear hn0
      go_enter Try.func13, Try.ntmps13
      go_wp2_with fail
      go_ret
      rw [← hW1'.out]
      exact ⟨rfl, hq.out⟩
    · have g1 : decide (0 ≤ num) = false := decide_eq_false hn0
      have hq := Lib.hid (hN'.out false ⟨fun q => (by cases q), fun _ => by omega⟩)
      clear hn0
      go_enter Try.func13, Try.ntmps13
      go_wp2_with fail
      go_ret
      rw [← hW1'.out]
      exact ⟨rfl, hq.out⟩
  by_cases k6 : kind = 6
  · subst k6
    go_enter Try.func13, Try.ntmps13
    go_wp2_with fail
    refine c6.mono ?_
    rintro e w1 ⟨rfl, h1⟩
    go_wp2_with fail
    go_ret
    exact ⟨rfl, h1⟩
  · have e1 : doesS S ⟨kind, num, name, bA, bn, bc, b, kA, kn, kc, keep⟩ = (0, S) := by
      unfold doesS
      simp only [if_neg k0, if_neg k1, if_neg k2, if_neg k3, if_neg k4, if_neg k5, if_neg k6]
    rw [e1]
    have q0 : (kind == 0) = false := by simpa using k0
    have q1 : (kind == 1) = false := by simpa using k1
    have q2 : (kind == 2) = false := by simpa using k2
    have q3 : (kind == 3) = false := by simpa using k3
    have q4 : (kind == 4) = false := by simpa using k4
    have q5 : (kind == 5) = false := by simpa using k5
    have q6 : (kind == 6) = false := by simpa using k6
    clear k0 k1 k2 k3 k4 k5 k6 e1
    go_enter Try.func13, Try.ntmps13
    go_wp2_with fail
    go_ret
    exact ⟨rfl, hz⟩
end

end Dk
end Go.Proofs.Ythangnhccbnfbaa
