/- What Sorted of package dict does. -/
import Derived.Test.YtiokajaadmfohaaDtOps
import Derived.Test.YtiokajaadmfohaaDtClone
import Derived.Test.YtiokajaadmfohaaDtPlace
import Derived.Test.YtiokajaadmfohaaDcRefD
namespace Go.Proofs.Ytiokajaadmfohaa
set_option maxRecDepth 20000
open Go.RowKit
namespace Dt
open Va (Vl May ord null)
open Dc Dx
/-- The sort of a row of the call's own, nil or not. -/
theorem sort_all (B n c : Nat) (A : Option Addr) (L : List Vl) (w : World) (hown : w.ownsRow B 24 4 (.slice A n c) n (Wd.flatV L)) (h1 : ∀ x ∈ L, Wd.V1 x) (hm : ∀ x ∈ L, May x) (hn : L.Nodup) (hl : L.length ≤ 4096) (hB : B ≤ w.heap.size) :
    Calls Try.prog 31 #[.slice A n c, .func (.func 32) #[] #[]] w fun e w' => e = .returned (.tuple #[]) ∧ Wd.Vs w' A n c (srt L) ∧ Below B w w' := by
  have hlen : n = L.length := by have := hown.1; rw [Wd.flatV_len] at this; omega
  rcases hown.2 with ⟨h', h0⟩ | ⟨g, cap, cur, h', hb, hg, h2, h3, h4, h5⟩
  · simp only [Value.slice.injEq] at h'
    obtain ⟨rfl, rfl, rfl⟩ := h'
    have e : L = [] := List.eq_nil_of_length_eq_zero hlen.symm
    subst e
    refine (Ds.sort_none none 0 _ w).mono ?_
    rintro e w' ⟨rfl, rfl⟩
    exact ⟨rfl, Wd.Vs.none_ _, Below.refl _ _⟩
  · simp only [Value.slice.injEq, true_and] at h'
    obtain ⟨rfl, rfl⟩ := h'
    refine (Ds.sort_any B g n c L w hown h1 hm hn hl).mono ?_
    rintro e w' ⟨rfl, hV, hG⟩
    exact ⟨rfl, hV, (Below.refl _ _).grown hG hB (fun x hx => by cases hx; exact hb)⟩
section
variable {w : World} {d m : Nat} {v : Value} {L : List Vl} {k : Int} {G : Nat → Prop}
set_option maxHeartbeats 4000000 in
theorem sorted_any (h : Lay w d m v L k G) (hd : Dis L k) (ho : ∀ x ∈ L, Okv x) : Calls Try.prog 18 #[pt d] w (OutS w (srt L) (tos L)) := by
  obtain ⟨i0, hi, hz0, hz1, hz2⟩ := info_parts info_i
  obtain ⟨A, n, c, hv, hV⟩ := h.vs ho
  have hlb := lim_bd k
  have hdl := hd.len
  have hL4 : L.length ≤ 4096 := by omega
  have hn4 : n ≤ 4096 := by rw [hV.len]; exact hL4
  have Hm := Lib.hid hV.len
  have hcap := hV.cap
  have hmx := hV.max
  unfold maxLen at hmx
  have cells := fun w' (hb : Below w.heap.size w w') => by
    have hl := h.below hb
    have c2 := hl.box.cell 2
    simp at c2
    rw [hv] at c2
    exact c2
  have Cells := Lib.hid cells
  have HV := Lib.hid hV
  have Hd := Lib.hid hd
  have Ho := Lib.hid ho
  have Cc := Lib.hid (Ds.clone_any A n c L w hV hL4)
  have c2 := cells w (Below.refl _ _)
  have hdlt := h.box.lt
  have Cs := Lib.hid fun A1 c1 w1 (hown : w1.ownsRow w.heap.size 24 4 (.slice A1 n c1) n (Wd.flatV L)) (hb : w.heap.size ≤ w1.heap.size) => sort_all w.heap.size n c1 A1 L w1 hown (fun x hx => (ho x hx).1) hd.may hd.nd hL4 hb
  clear cells hV h hlb hdl hv hd ho
  go_enter Try.func18, Try.ntmps18
  go_wp2_with fail
  refine Cc.out.mono ?_
  rintro e w1 ⟨v1, rfl, hO1, hB1⟩
  rw [← Hm.out] at hO1
  obtain ⟨A1, c1, rfl⟩ := own_shape hO1
  have HO1 := Lib.hid hO1
  clear Cc hO1 c2
  go_wp2_with fail
  refine (Cs.out A1 c1 w1 HO1.out hB1.size).mono ?_
  rintro e w2 ⟨rfl, hV2, hB2⟩
  have hb2 := hB1.trans hB2
  have HV2 := Lib.hid hV2
  clear Cs HO1 hV2 hB2 hB1
  go_wp2_with (at_make; refine wpList_make_full _ rfl (.tmp 18) (.tmp 18) 40 rfl w2.heap.size 3 i0 _ 1 Try.underlying40 hi hz0 hz1 .i64 .i64 n n n rfl rfl rfl rfl (by rw [hz2]; omega) (by unfold maxLen; omega) (Nat.le_refl _) ?_; intro w3 hown3 hgrow3; have hb23 : Below w2.heap.size w2 w3 := (Below.refl _ _).grown hgrow3 (Nat.le_refl _) (by simp); have c3 := Cells.out w3 (hb2.trans (hb23.mono hb2.size)))
  rw [Wd.made_zero] at hown3
  have hR3 := (Wd.Row.of_own hown3).1
  have I0 := Lib.hid (And.intro hR3 hb23)
  have Hb2 := Lib.hid hb2
  have hz2w := hb2.size
  have Hris := Lib.hid (srt_ris Hd.out.may Hd.out.nd)
  clear hown3 hgrow3 hR3 hb23 hb2 c3
  go_loopw [25] (fun i wr => ∃ k : Nat, i = .int .i64 k ∧ k ≤ n ∧ Wd.Row wr w2.heap.size .i64 3 (Wd.fill (tos L) k) ∧ Below w2.heap.size w2 wr) (fun i _ => n - (intOf i).toNat)
  case atStart =>
    refine ⟨0, rfl, Nat.zero_le _, ?_, I0.out.2⟩
    rw [Wd.fill_zero, tos_len, ← Hm.out]
    exact I0.out.1
  case round =>
    obtain ⟨k, rfl, hk, hR, hB⟩ := hrel
    by_cases hlt : k < n
    · have hkl : k < L.length := by rw [← Hm.out]; exact hlt
      have hBw := Hb2.out.trans (hB.mono hz2w)
      obtain ⟨e, f, hA, heB, d0, d1, d2, d3, _⟩ := (HV.out.below hBw).cells (j := k) hkl rfl
      subst hA
      have htos := tos_getD hkl
      have hxm := getD_mem hkl
      obtain ⟨x, hx⟩ : ∃ x, x = L.getD k default := ⟨_, rfl⟩
      rw [← hx] at d0 d1 d2 d3 htos hxm
      have Cp := fun w' (hb : Below w2.heap.size w2 w') => place_any A1 n c1 (srt L) x.kind x.i x.s x.b w' (HV2.out.below hb) Hris.out (Hd.out.may x hxm)
      rw [show (⟨x.kind, x.i, x.s, x.b⟩ : Vl) = x from rfl, place_perm (srt_perm L) x] at Cp
      generalize place L x = p at *
      generalize decide (x ∈ srt L) = bb at *
      have Htos := Lib.hid htos
      have Hkt := Lib.hid (show k < (tos L).length by rw [tos_len]; exact hkl)
      have Cp := Lib.hid Cp
      have hb4 : Below w2.heap.size w2 (wr.alloc (.cells #[.int .i64 x.kind, .int .i64 x.i, .string x.s, .bool x.b] 24)) := hB.alloc hB.size _
      have hR4 := hR.below hR.lt ((Below.refl wr.heap.size wr).alloc (Nat.le_refl _) (.cells #[.int .i64 x.kind, .int .i64 x.i, .string x.s, .bool x.b] 24))
      have hkI : (k : Int) < (n : Int) := by omega
      clear hx hxm htos hkl hBw hR hB
      go_wp2_with fail
      generalize wr.alloc (.cells #[.int .i64 x.kind, .int .i64 x.i, .string x.s, .bool x.b] 24) = wv at *
      clear d0 d1 d2 d3
      refine (Cp.out _ hb4).mono ?_
      rintro e' w5 ⟨rfl, hB5⟩
      have hb5 := hb4.trans (hB5.mono hb4.size)
      have hR5 := hR4.below hR4.lt hB5
      have cg := hR5.cell k (by rw [Wd.fill_len]; exact Hkt.out)
      have cf := hR5.free k
      have hst : Wd.Row (w5.setCell ⟨w2.heap.size, k, none⟩ (.int .i64 (p : Int))) w2.heap.size .i64 3 (Wd.fill (tos L) (k + 1)) := by
        rw [← Wd.fill_set (tos L) k Hkt.out, Htos.out]
        exact hR5.set k _
      have hb6 := hb5.setCell (p := ⟨w2.heap.size, k, none⟩) (Nat.le_refl _) (.int .i64 (p : Int))
      clear hR4 hR5 hB5 hb4 hb5 Cp
      go_wp2_with fail
      go_roundw
      case rel => exact ⟨k + 1, by go_num, by omega, hst, hb6⟩
      case measure => simp [intOf]; omega
    · have hkI : ¬ (k : Int) < n := by omega
      have hkm : k = n := by omega
      have e2 : Wd.fill (tos L) k = tos L := by rw [hkm, Hm.out, ← tos_len L, Wd.fill_all]
      rw [e2] at hR
      have hBw := Hb2.out.trans (hB.mono hz2w)
      clear e2 hkm
      go_wp2_with fail
      go_ret2
      exact ⟨_, _, _, _, _, _, rfl, HV2.out.below hB, hR.sl n (by rw [tos_len]; exact Hm.out) (by unfold maxLen; omega), hBw⟩
end
end Dt
end Go.Proofs.Ytiokajaadmfohaa
