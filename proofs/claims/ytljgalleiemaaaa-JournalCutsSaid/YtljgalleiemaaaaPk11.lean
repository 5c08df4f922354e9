/- Package journal: End, Last, Entries. -/
import Derived.Test.YtljgalleiemaaaaPk09
namespace Go.Proofs.Ytljgalleiemaaaa
set_option maxRecDepth 20000
open Go.RowKit
namespace Jr
open Jo (En May Wf Rg Pt endOf last app1)
open Wd (Pv Pc Es Lv Bx)
theorem jv_pc {w : World} {p0 p1 p2 p3 : Pv} {j : Jo.Jn} {b : Nat} {t : TypeId} (h : Jv w p0 p1 p2 p3 j) (hb : Bx w b t #[.int .i64 p0.g, .int .i64 p0.b, .slice p0.A p0.n p0.c, .int .i64 p1.g, .int .i64 p1.b, .slice p1.A p1.n p1.c, .int .i64 p2.g, .int .i64 p2.b, .slice p2.A p2.n p2.c, .int .i64 p3.g, .int .i64 p3.b, .slice p3.A p3.n p3.c]) {k : Nat} (hk : k < 4) : Pc w b (k * 3) t #[.int .i64 p0.g, .int .i64 p0.b, .slice p0.A p0.n p0.c, .int .i64 p1.g, .int .i64 p1.b, .slice p1.A p1.n p1.c, .int .i64 p2.g, .int .i64 p2.b, .slice p2.A p2.n p2.c, .int .i64 p3.g, .int .i64 p3.b, .slice p3.A p3.n p3.c] (sel p0 p1 p2 p3 k) :=
  ⟨hb, (at_sel hk).1, (at_sel hk).2.1, (at_sel hk).2.2, (h.sel k).2.1, (h.sel k).2.2⟩
set_option maxHeartbeats 4000000 in
theorem newestOf_any (p0 p1 p2 p3 : Pv) (j : Jo.Jn) (z : Int) (w : World) (hj : Jv w p0 p1 p2 p3 j) (h0 : 0 ≤ z) (h1 : z ≤ 3) (y : En) (hy : y = nw (sel p0 p1 p2 p3 z.toNat)) :
    Calls Try.prog 21 #[.agg #[.int .i64 p0.g, .int .i64 p0.b, .slice p0.A p0.n p0.c, .int .i64 p1.g, .int .i64 p1.b, .slice p1.A p1.n p1.c, .int .i64 p2.g, .int .i64 p2.b, .slice p2.A p2.n p2.c, .int .i64 p3.g, .int .i64 p3.b, .slice p3.A p3.n p3.c], .int .i64 z] w fun e w' => e = .returned (.agg #[.int .i64 y.kind, .int .i64 y.part, .int .i64 y.id, .int .i64 y.st, .int .i64 y.en, .int .i64 y.size, .int .i64 y.sum]) ∧ Below w.heap.size w w' := by
  have b1 := alS (alS (Below.refl w.heap.size w) (.cells #[.int .i64 p0.g, .int .i64 p0.b, .slice p0.A p0.n p0.c, .int .i64 p1.g, .int .i64 p1.b, .slice p1.A p1.n p1.c, .int .i64 p2.g, .int .i64 p2.b, .slice p2.A p2.n p2.c, .int .i64 p3.g, .int .i64 p3.b, .slice p3.A p3.n p3.c] 27)) (.cells #[.int .i64 0, .int .i64 0, .int .i64 0, .int .i64 0, .int .i64 0, .int .i64 0, .int .i64 0] 32)
  have z1 : (w.alloc (.cells #[.int .i64 p0.g, .int .i64 p0.b, .slice p0.A p0.n p0.c, .int .i64 p1.g, .int .i64 p1.b, .slice p1.A p1.n p1.c, .int .i64 p2.g, .int .i64 p2.b, .slice p2.A p2.n p2.c, .int .i64 p3.g, .int .i64 p3.b, .slice p3.A p3.n p3.c] 27)).heap.size = w.heap.size + 1 := by simp
  have jb := (Bx.new w 27 #[.int .i64 p0.g, .int .i64 p0.b, .slice p0.A p0.n p0.c, .int .i64 p1.g, .int .i64 p1.b, .slice p1.A p1.n p1.c, .int .i64 p2.g, .int .i64 p2.b, .slice p2.A p2.n p2.c, .int .i64 p3.g, .int .i64 p3.b, .slice p3.A p3.n p3.c]).alloc (.cells #[.int .i64 0, .int .i64 0, .int .i64 0, .int .i64 0, .int .i64 0, .int .i64 0, .int .i64 0] 32)
  have rb := Bx.new (w.alloc (.cells #[.int .i64 p0.g, .int .i64 p0.b, .slice p0.A p0.n p0.c, .int .i64 p1.g, .int .i64 p1.b, .slice p1.A p1.n p1.c, .int .i64 p2.g, .int .i64 p2.b, .slice p2.A p2.n p2.c, .int .i64 p3.g, .int .i64 p3.b, .slice p3.A p3.n p3.c] 27)) 32 #[.int .i64 0, .int .i64 0, .int .i64 0, .int .i64 0, .int .i64 0, .int .i64 0, .int .i64 0]
  rw [z1] at rb
  obtain ⟨w1, hw1⟩ : ∃ w1, w1 = (w.alloc (.cells #[.int .i64 p0.g, .int .i64 p0.b, .slice p0.A p0.n p0.c, .int .i64 p1.g, .int .i64 p1.b, .slice p1.A p1.n p1.c, .int .i64 p2.g, .int .i64 p2.b, .slice p2.A p2.n p2.c, .int .i64 p3.g, .int .i64 p3.b, .slice p3.A p3.n p3.c] 27)).alloc (.cells #[.int .i64 0, .int .i64 0, .int .i64 0, .int .i64 0, .int .i64 0, .int .i64 0, .int .i64 0] 32) := ⟨_, rfl⟩
  rw [← hw1] at b1 jb rb
  have hk : z.toNat < 4 := by omega
  have hz4 : z < 4 := by omega
  have J1 := Lib.hid (hj.below b1)
  obtain ⟨c0, c1, c2, -, -, -⟩ := (jv_pc J1.out jb hk).cells
  obtain ⟨q, hq⟩ : ∃ q, q = sel p0 p1 p2 p3 z.toNat := ⟨_, rfl⟩
  have hs := J1.out.sel z.toNat
  rw [← hq] at c0 c1 c2 hy hs
  have wy := wn_yes (n := z) (a := 0) (b := 3) ⟨h0, h1⟩
  have al := (Below.refl w1.heap.size w1).alloc (Nat.le_refl _) (.cells #[.int .i64 q.g, .int .i64 q.b, .slice q.A q.n q.c] 51)
  have pb := Bx.new w1 51 #[.int .i64 q.g, .int .i64 q.b, .slice q.A q.n q.c]
  obtain ⟨w2, hw2⟩ : ∃ w2, w2 = w1.alloc (.cells #[.int .i64 q.g, .int .i64 q.b, .slice q.A q.n q.c] 51) := ⟨_, rfl⟩
  rw [← hw2] at al pb
  have C := Lib.hid (newest_any w1.heap.size 0 _ _ q w2 ⟨pb, rfl, rfl, rfl, hs.2.1, hs.2.2⟩ (hs.1.below al) y hy)
  have RB := Lib.hid (rb.below rb.lt al)
  have B2 := Lib.hid (b1.trans (al.mono b1.size))
  have Hw1 := Lib.hid hw1
  have Hw2 := Lib.hid hw2
  clear hw1 hw2 b1 z1 jb rb hj hy hq hs al pb J1
  go_enter Try.func21, Try.ntmps21
  go_upto_region 1 with fail
  rw [← Hw1.out]
  go_wp2_with (with_reducible refine (within_any _ _ _ _).mono ?_; rintro e w' ⟨rfl, rfl⟩)
  rw [← Hw2.out]
  refine C.out.mono ?_
  rintro e w3 ⟨rfl, hB3⟩
  have rb3 := RB.out.below RB.out.lt hB3
  have B3 := Lib.hid (B2.out.trans (hB3.mono B2.out.size))
  obtain ⟨d0, d1, d2, d3, d4, d5, d6⟩ := seven rb3
  obtain ⟨f0, f1, f2, f3, f4, f5, f6⟩ := And.intro (rb3.free 0) (And.intro (rb3.free 1) (And.intro (rb3.free 2) (And.intro (rb3.free 3) (And.intro (rb3.free 4) (And.intro (rb3.free 5) (rb3.free 6))))))
  clear rb3 hB3
  go_wp2_with fail
  refine bodyPost_ret (v := .agg #[.int .i64 y.kind, .int .i64 y.part, .int .i64 y.id, .int .i64 y.st, .int .i64 y.en, .int .i64 y.size, .int .i64 y.sum]) ?_ rfl ⟨rfl, ?_⟩
  · rw [res_cell1 rfl]; go_simp
  · exact ((((((B3.out.setCell (by simp) _).setCell (by simp) _).setCell (by simp) _).setCell (by simp) _).setCell (by simp) _).setCell (by simp) _).setCell (by simp) _
theorem end_any (p0 p1 p2 p3 : Pv) (j : Jo.Jn) (z : Int) (w : World) (hj : Jv w p0 p1 p2 p3 j) (h0 : 0 ≤ z) (h1 : z ≤ 3) :
    Calls Try.prog 8 #[.agg #[.int .i64 p0.g, .int .i64 p0.b, .slice p0.A p0.n p0.c, .int .i64 p1.g, .int .i64 p1.b, .slice p1.A p1.n p1.c, .int .i64 p2.g, .int .i64 p2.b, .slice p2.A p2.n p2.c, .int .i64 p3.g, .int .i64 p3.b, .slice p3.A p3.n p3.c], .int .i64 z] w fun e w' => e = .returned (.int .i64 (endOf (j.getD z.toNat default))) ∧ Below w.heap.size w w' := by
  obtain ⟨y, hy⟩ : ∃ y, y = nw (sel p0 p1 p2 p3 z.toNat) := ⟨_, rfl⟩
  have ey : endOf (j.getD z.toNat default) = y.en := by rw [hy, nw_end, hj.e, pt_sel (by omega)]
  rw [ey]
  have b1 := alS (Below.refl w.heap.size w) (.cells #[.int .i64 p0.g, .int .i64 p0.b, .slice p0.A p0.n p0.c, .int .i64 p1.g, .int .i64 p1.b, .slice p1.A p1.n p1.c, .int .i64 p2.g, .int .i64 p2.b, .slice p2.A p2.n p2.c, .int .i64 p3.g, .int .i64 p3.b, .slice p3.A p3.n p3.c] 27)
  have C := Lib.hid (newestOf_any p0 p1 p2 p3 j z _ (hj.below b1) h0 h1 y hy)
  have B1 := Lib.hid b1
  have hfd : ∀ w, (Instr.field 32 (.agg #[.int .i64 y.kind, .int .i64 y.part, .int .i64 y.id, .int .i64 y.st, .int .i64 y.en, .int .i64 y.size, .int .i64 y.sum]) 4).run Try.prog w = .ok (.int .i64 y.en) w := fun _ => by kernel_rfl
  clear hj hy ey b1
  go_enter Try.func8, Try.ntmps8
  go_wp2_with fail
  refine C.out.mono ?_
  rintro e w3 ⟨rfl, hB3⟩
  go_wp2_with fail
  go_ret
  exact ⟨rfl, B1.out.trans (hB3.mono B1.out.size)⟩
theorem last_any (p0 p1 p2 p3 : Pv) (j : Jo.Jn) (z : Int) (w : World) (hj : Jv w p0 p1 p2 p3 j) (h0 : 0 ≤ z) (h1 : z ≤ 3) :
    Calls Try.prog 9 #[.agg #[.int .i64 p0.g, .int .i64 p0.b, .slice p0.A p0.n p0.c, .int .i64 p1.g, .int .i64 p1.b, .slice p1.A p1.n p1.c, .int .i64 p2.g, .int .i64 p2.b, .slice p2.A p2.n p2.c, .int .i64 p3.g, .int .i64 p3.b, .slice p3.A p3.n p3.c], .int .i64 z] w fun e w' => e = .returned (.int .i64 (last (j.getD z.toNat default))) ∧ Below w.heap.size w w' := by
  obtain ⟨y, hy⟩ : ∃ y, y = nw (sel p0 p1 p2 p3 z.toNat) := ⟨_, rfl⟩
  have ey : last (j.getD z.toNat default) = y.id := by rw [hy, nw_last, hj.e, pt_sel (by omega)]
  rw [ey]
  have b1 := alS (Below.refl w.heap.size w) (.cells #[.int .i64 p0.g, .int .i64 p0.b, .slice p0.A p0.n p0.c, .int .i64 p1.g, .int .i64 p1.b, .slice p1.A p1.n p1.c, .int .i64 p2.g, .int .i64 p2.b, .slice p2.A p2.n p2.c, .int .i64 p3.g, .int .i64 p3.b, .slice p3.A p3.n p3.c] 27)
  have C := Lib.hid (newestOf_any p0 p1 p2 p3 j z _ (hj.below b1) h0 h1 y hy)
  have B1 := Lib.hid b1
  have hfd : ∀ w, (Instr.field 32 (.agg #[.int .i64 y.kind, .int .i64 y.part, .int .i64 y.id, .int .i64 y.st, .int .i64 y.en, .int .i64 y.size, .int .i64 y.sum]) 2).run Try.prog w = .ok (.int .i64 y.id) w := fun _ => by kernel_rfl
  clear hj hy ey b1
  go_enter Try.func9, Try.ntmps9
  go_wp2_with fail
  refine C.out.mono ?_
  rintro e w3 ⟨rfl, hB3⟩
  go_wp2_with fail
  go_ret
  exact ⟨rfl, B1.out.trans (hB3.mono B1.out.size)⟩
end Jr
end Go.Proofs.Ytljgalleiemaaaa
