/- What the statements' function Does does, with whose memory turns: one call of a disk. -/
import Derived.Test.YthangnhccbnfbaaDkLawW
namespace Go.Proofs.Ythangnhccbnfbaa
open Go.RowKit Go.Maps
namespace Dk
open Wd (Opr Op1)
theorem Did.base {w w0 w' : World} {d : Nat} {G : Nat → Prop} {r : Int × Pd} {e : Ending} (h : Did w0 d G r e w') (bd : ∀ g, G g → g < w.heap.size) (hb : Below w.heap.size w w0) : Did w d G r e w' := by
  obtain ⟨h1, h2, h3⟩ := h
  have mv : Wd.Mv G w w' := (Wd.Mv.of_below hb).then h2
  refine ⟨h1, mv, h3.grow (fun g hg => ?_) (Wd.Gr.lt bd mv.size)⟩
  have := hb.size
  rcases hg with q | q
  · exact .inl q
  · exact .inr (by omega)
theorem Did0.base {w w0 w' : World} {d : Nat} {G : Nat → Prop} {S : Pd} {e : Ending} (h : Did0 w0 d G S e w') (bd : ∀ g, G g → g < w.heap.size) (hb : Below w.heap.size w w0) : Did0 w d G S e w' := by
  obtain ⟨h1, h2, h3⟩ := h
  have mv : Wd.Mv G w w' := (Wd.Mv.of_below hb).then h2
  refine ⟨h1, mv, h3.grow (fun g hg => ?_) (Wd.Gr.lt bd mv.size)⟩
  have := hb.size
  rcases hg with q | q
  · exact .inl q
  · exact .inr (by omega)
section
variable {w : World} {d : Nat} {G : Nat → Prop} {S : Pd}
set_option maxHeartbeats 2000000 in
theorem does_mv (h : Dsk w d G S) (o : Opr) (ho' : ∀ W, Wd.Mv G w W → Op1 W o) (hs : Sm o) :
    Calls Try.prog 12 #[pt d, .agg o.vals.toArray] w (Did w d G (doesS S o)) := by
  obtain ⟨kind, num, name, bA, bn, bc, b, kA, kn, kc, keep⟩ := o
  obtain ⟨ob, -, okf, ow0, ow1⟩ := ho' w (Wd.Mv.refl _ _)
  obtain ⟨s1, s2, s3⟩ := hs
  simp only [] at ob okf ow0 ow1 s1 s2 s3
  have hbn : bn ≤ 1000000 := by rw [ob.len]; omega
  have hbx := (Below.refl w.heap.size w).alloc (Nat.le_refl _) (.cells #[.int .i64 kind, .int .i64 num, .string name, .slice bA bn bc, .slice kA kn kc] 36)
  have h' := h.below hbx
  have hmv : ∀ W, Wd.Mv G (w.alloc (.cells #[.int .i64 kind, .int .i64 num, .string name, .slice bA bn bc, .slice kA kn kc] 36)) W → Wd.Mv G w W := fun W hW => (Wd.Mv.of_below hbx).then hW
  have hw := bounds_i64 ow1
  have c0 := (create_any h' name s3).mono fun _ _ q => q.base h.bd hbx
  have c1 := (append_any h' name s3 bA bn bc b (fun W hW => (ho' W (hmv W hW)).b) hbn).mono fun _ _ q => q.base h.bd hbx
  have c2 := (sync_any h' name s3).mono fun _ _ q => q.base h.bd hbx
  have c3 := (delete_any h' name s3).mono fun _ _ q => q.base h.bd hbx
  have c4 := (room_any h' num).mono fun _ _ q => q.base h.bd hbx
  have c5 := (arm_any h' num hw.1 hw.2).mono fun _ _ q => q.base h.bd hbx
  have c6 := (crash_any h' kA kn kc keep (fun W hW => (ho' W (hmv W hW)).k) okf).mono fun _ _ q => q.base h.bd hbx
  have hz : Wd.Mv G w (w.alloc (.cells #[.int .i64 kind, .int .i64 num, .string name, .slice bA bn bc, .slice kA kn kc] 36)) ∧ Dsk (w.alloc (.cells #[.int .i64 kind, .int .i64 num, .string name, .slice bA bn bc, .slice kA kn kc] 36)) d (Wd.Gr G w (w.alloc (.cells #[.int .i64 kind, .int .i64 num, .string name, .slice bA bn bc, .slice kA kn kc] 36))) S := ⟨Wd.Mv.of_below hbx, Dsk.gr h' hbx.size h.bd⟩
  clear ho' hmv
  clear hbx
  simp only [Opr.vals]
  by_cases k0 : kind = 0
  · subst k0
    go_enter Try.func12, Try.ntmps12
    go_wp2_with fail
    refine c0.mono ?_
    rintro e w1 ⟨rfl, h1⟩
    go_wp2_with fail
    go_ret
    exact ⟨rfl, h1⟩
  by_cases k1 : kind = 1
  · subst k1
    go_enter Try.func12, Try.ntmps12
    go_wp2_with fail
    refine c1.mono ?_
    rintro e w1 ⟨rfl, h1⟩
    go_wp2_with fail
    go_ret
    exact ⟨rfl, h1⟩
  by_cases k2 : kind = 2
  · subst k2
    go_enter Try.func12, Try.ntmps12
    go_wp2_with fail
    refine c2.mono ?_
    rintro e w1 ⟨rfl, h1⟩
    go_wp2_with fail
    go_ret
    exact ⟨rfl, h1⟩
  by_cases k3 : kind = 3
  · subst k3
    go_enter Try.func12, Try.ntmps12
    go_wp2_with fail
    refine c3.mono ?_
    rintro e w1 ⟨rfl, h1⟩
    go_wp2_with fail
    go_ret
    exact ⟨rfl, h1⟩
  by_cases k4 : kind = 4
  · subst k4
    go_enter Try.func12, Try.ntmps12
    go_wp2_with fail
    refine c4.mono ?_
    rintro e w1 ⟨rfl, h1⟩
    go_wp2_with fail
    go_ret
    exact ⟨rfl, h1⟩
  by_cases k5 : kind = 5
  · subst k5
    go_enter Try.func12, Try.ntmps12
    go_wp2_with fail
    refine c5.mono ?_
    rintro e w1 ⟨rfl, h1⟩
    go_wp2_with fail
    go_ret
    exact ⟨rfl, h1⟩
  by_cases k6 : kind = 6
  · subst k6
    go_enter Try.func12, Try.ntmps12
    go_wp2_with fail
    refine c6.mono ?_
    rintro e w1 ⟨rfl, h1⟩
    go_wp2_with fail
    go_ret
    exact ⟨rfl, h1⟩
  · have e1 : doesS S ⟨kind, num, name, bA, bn, bc, b, kA, kn, kc, keep⟩ = (0, S) := by
      unfold doesS
      simp only [if_neg k0, if_neg k1, if_neg k2, if_neg k3, if_neg k4, if_neg k5, if_neg k6]
    rw [e1]
    have q0 : (kind == 0) = false := by simpa using k0
    have q1 : (kind == 1) = false := by simpa using k1
    have q2 : (kind == 2) = false := by simpa using k2
    have q3 : (kind == 3) = false := by simpa using k3
    have q4 : (kind == 4) = false := by simpa using k4
    have q5 : (kind == 5) = false := by simpa using k5
    have q6 : (kind == 6) = false := by simpa using k6
    clear k0 k1 k2 k3 k4 k5 k6 e1
    go_enter Try.func12, Try.ntmps12
    go_wp2_with fail
    go_ret
    exact ⟨rfl, hz⟩
end

end Dk
end Go.Proofs.Ythangnhccbnfbaa
