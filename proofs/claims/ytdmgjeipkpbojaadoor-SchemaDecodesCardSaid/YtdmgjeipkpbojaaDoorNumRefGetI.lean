/- What the reference function Get of layer 1 does with any bytes. -/
import Derived.Test.YtdmgjeipkpbojaaDoorNumRefAll
namespace Go.Proofs.YtdmgjeipkpbojaaDoor
set_option maxRecDepth 20000
open Go.RowKit
namespace Nc
theorem refGet_all (A : Option Addr) (n c : Nat) (bs : List Int) (w : World) (hb : Wd.Sl w .u8 A n c bs) (hB : Nm.Byt bs) :
    Calls Tryd.prog 50 #[.slice A n c] w fun e w' => e = .returned (three .i64 (Nm.getI bs)) ∧ w = w' := by
  have hcap := hb.cap
  have hmx := hb.max
  unfold maxLen at hmx
  have c1 := refRun_any A n c bs w hb hB
  by_cases h : (Nm.gv bs).2.2 = 0
  · obtain ⟨k, u, hk, k1, k2, k3, u0, u1, ht, _⟩ := Nm.gv_only bs hB h
    rw [← hb.len] at k2
    have hSk := hb.head k k2
    have hdv : Nm.dv (bs.take k) = u := by rw [ht]; exact Nm.dv_vd u u0 u1
    have c2 := refHalves_any A k c (bs.take k) w hSk (fun x hx => hB x (List.mem_of_mem_take hx)) k1 k3 (by rw [hdv]; exact u1)
    rw [hdv] at c2
    rw [hk] at c1
    have C1 := Lib.hid c1
    have C2 := Lib.hid c2
    have kI : (k : Int) ≤ (n : Int) := by omega
    have hh0 : 0 ≤ u / 2 := by omega
    have hh1 : u / 2 ≤ 9223372036854775807 := by omega
    by_cases hu : u % 2 = 1
    · have hr : Nm.getI bs = (-(u / 2) - 1, (k : Int), 0) := by unfold Nm.getI Nm.unz; rw [hk]; simp [hu]
      rw [hr]
      rw [hu] at C2
      clear c1 c2 hSk hdv ht hk h hr hb hB hu
      generalize u / 2 = d at *
      go_enter Tryd.func50, Tryd.ntmps50
      go_wp2_with fail
      refine C1.out.mono ?_
      rintro e w1 ⟨rfl, rfl⟩
      go_wp2_with fail
      refine C2.out.mono ?_
      rintro e w1 ⟨rfl, rfl⟩
      go_wp2_with fail
      go_ret3
      exact ⟨rfl, rfl⟩
    · have hu' : u % 2 = 0 := by omega
      have hr : Nm.getI bs = (u / 2, (k : Int), 0) := by unfold Nm.getI Nm.unz; rw [hk]; simp [hu]
      rw [hr]
      rw [hu'] at C2
      clear c1 c2 hSk hdv ht hk h hr hb hB hu hu'
      generalize u / 2 = d at *
      go_enter Tryd.func50, Tryd.ntmps50
      go_wp2_with fail
      refine C1.out.mono ?_
      rintro e w1 ⟨rfl, rfl⟩
      go_wp2_with fail
      refine C2.out.mono ?_
      rintro e w1 ⟨rfl, rfl⟩
      go_wp2_with fail
      go_ret3
      exact ⟨rfl, rfl⟩
  · rcases Nm.gv_err bs with q | q | q
    · exact absurd q h
    all_goals
      have hr : Nm.getI bs = Nm.gv bs := by unfold Nm.getI; rw [q]; rfl
      rw [hr]
      rw [q] at c1 ⊢
      have C1 := Lib.hid c1
      clear c1 hr q h hb hB
      go_enter Tryd.func50, Tryd.ntmps50
      go_wp2_with fail
      refine C1.out.mono ?_
      rintro e w1 ⟨rfl, rfl⟩
      go_wp2_with fail
      go_ret3
      exact ⟨rfl, rfl⟩
end Nc
end Go.Proofs.YtdmgjeipkpbojaaDoor
