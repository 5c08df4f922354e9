/- The walk of the statement RunsFew of layer 3. -/
import Derived.Test.YtejhnmahmnbmkaaRunAwake
import Derived.Test.YtejhnmahmnbmkaaNumRefGet
import Derived.Deep.QuietTactic
import Derived.BigQuiet
import Derived.IntWalk
namespace Go.Proofs.Ytejhnmahmnbmkaa
open Go.RowKit
namespace Lw
open Rc Nc

/-! ### Runs that follow one another have different values -/
def Alt (v : List Int) : Prop := ∀ k, k + 1 < v.length → v.getD k 0 ≠ v.getD (k + 1) 0
theorem alt_snoc {v : List Int} {x : Int} (h : Alt v) (hx : ∀ y, v.getLast? = some y → y ≠ x) : Alt (v ++ [x]) := by
  intro k hk
  simp only [List.length_append, List.length_cons, List.length_nil] at hk
  rcases Nat.lt_or_ge (k + 1) v.length with q | q
  · have := h k q
    simpa [List.getD, List.getElem?_append, q, show k < v.length by omega] using this
  · have e : k + 1 = v.length := by omega
    have hl : v.getLast? = some (v.getD k 0) := by
      rw [List.getLast?_eq_getElem?, show v.length - 1 = k by omega]
      simp [List.getD, show k < v.length by omega]
    have h1 := hx _ hl
    have e1 : (v ++ [x]).getD k 0 = v.getD k 0 := by simp [List.getD, List.getElem?_append, show k < v.length by omega]
    have e2 : (v ++ [x]).getD (k + 1) 0 = x := by rw [e]; simp [List.getD]
    rw [e1, e2]
    exact h1
theorem runs_alt (l : List Int) : Alt ((Rn.runs l).map (·.1)) := by
  induction l using Rn.snoc_ind with
  | h0 => intro k hk; simp [Rn.runs] at hk
  | hs l x ih =>
    rw [Rn.runs_snoc]
    unfold Rn.addR
    rcases hl : (Rn.runs l).getLast? with _ | ⟨v, n⟩
    · intro k hk; simp at hk
    · obtain ⟨r, e⟩ := List.getLast?_eq_some_iff.1 hl
      by_cases q : v = x
      · simp only [if_pos q]
        rw [e] at ih ⊢
        simpa using ih
      · simp only [if_neg q]
        rw [List.map_append]
        refine alt_snoc ih fun y hy => ?_
        rw [e] at hy
        simp at hy
        rw [← hy]
        exact q
theorem getD_map (r : Rn.Rs) (k : Nat) : (r.map (·.1)).getD k 0 = (r.getD k (0, 0)).1 := by
  simp only [List.getD, List.getElem?_map]
  cases r[k]? <;> rfl
theorem runs_apart_at (l : List Int) (k : Nat) (hk : 0 < k) (hl : k < (Rn.runs l).length) : ((Rn.runs l).getD k (0, 0)).1 ≠ ((Rn.runs l).getD (k - 1) (0, 0)).1 := by
  have h := runs_alt l (k - 1) (by simp; omega)
  rw [getD_map, getD_map, show k - 1 + 1 = k by omega] at h
  exact fun e => h e.symm

set_option maxRecDepth 100000 in
set_option maxHeartbeats 4000000 in
theorem runsFew_ok (A : Option Addr) (m c : Nat) (l : List Int) (w : World) (hS : Wd.Sl w .i64 A m c l) (hF : Rn.Fits l) (hm : m ≤ 600) :
    Calls Try.prog 7 #[.slice A m c] w fun e w' => e = .returned (.bool true) ∧ Below w.heap.size w w' := by
  have hl := hS.len
  have hcap := hS.cap
  have c1 := fun w hS => runs_any A m c l w hS (by omega) hF
  have c2 := fun w hS => encode_ok A m c l w hS (by omega) hF
  have hap := runs_apart_at l
  have hmem := Rn.runs_mem l
  have hpos := Rn.runs_pos l
  have hfl := Rn.flat_runs l
  have hrl := Rn.runs_len l
  have hge : 2 ≤ (Rn.enc l).length := Rn.block_ge l _
  have hle : (Rn.enc l).length ≤ 100000 := by have := Rn.block_le l (Rn.bi l 3); unfold Rn.enc; omega
  obtain ⟨K, bd, hK, hen⟩ : ∃ (K : Nat) (bd : List Int), K ≤ 2 ∧ Rn.enc l = (K : Int) :: (Nm.vd (l.length : Int) ++ bd) := ⟨Rn.bi l 3, Rn.body l (Rn.bi l 3), Rn.bi_le l 2, rfl⟩
  rw [hen] at c2
  generalize Rn.runs l = rs at *
  have C1 := Lib.hid c1
  have C2 := Lib.hid c2
  have Hl := Lib.hid hl
  have Hap := Lib.hid hap
  have Hmem := Lib.hid hmem
  have Hpos := Lib.hid hpos
  have Hfl := Lib.hid hfl
  have hrl2 : rs.length ≤ 600 := by omega
  have hel : ((K : Int) :: (Nm.vd (l.length : Int) ++ bd)).length ≤ 100000 := by rw [← hen]; exact hle
  have hel2 : 2 ≤ ((K : Int) :: (Nm.vd (l.length : Int) ++ bd)).length := by rw [← hen]; exact hge
  clear c1 c2 hl hap hmem hpos hfl hF hen hge hle hrl
  go_enter Try.func7, Try.ntmps7
  go_wp2_with fail
  refine (awake_any w).mono ?_
  rintro e w1 ⟨rfl, hB⟩
  have hS1 := hS.below hB
  clear hS
  go_wp2_with fail
  refine (C1.out w1 hS1).mono ?_
  rintro e w2 ⟨A2, n2, k2, rfl, hR2, hB2⟩
  have hW2 : Below w.heap.size w w2 := hB.trans (hB2.mono hB.size)
  have hS12 := hS1.below hB2
  have Hn2 := Lib.hid hR2.len
  have hn2 : n2 ≤ 600 := by rw [hR2.len]; exact hrl2
  clear hB hS1 hB2 C1
  go_wp2_with fail
  go_loopw [5, 6] (fun s i wr => ∃ k M q : Nat, i = .int .i64 k ∧ k ≤ n2 ∧ s = .int .i64 M ∧ M ≤ 600 ∧ Hid (M = (Rn.flat (rs.take k)).length) ∧ wr = w2.drewN q) (fun _ i _ => n2 - (intOf i).toNat)
  case atStart => exact ⟨0, 0, 0, rfl, Nat.zero_le _, rfl, by omega, Lib.hid rfl, rfl⟩
  case round =>
    obtain ⟨k, M, q, rfl, hk, rfl, hM, hM2, rfl⟩ := hrel
    by_cases hlt : k < n2
    · have hkl : k < rs.length := by rw [← Hn2.out]; exact hlt
      obtain ⟨b, o, rfl, hbB, x0, x1⟩ := hR2.at_ k hlt
      have hme := Hmem.out (rs.getD k (0, 0)) (by simp [List.getD, hkl])
      have hpo := Hpos.out (rs.getD k (0, 0)) (by simp [List.getD, hkl])
      have hfn := congrArg List.length (Rn.flat_next rs k hkl)
      rw [List.length_append, List.length_replicate] at hfn
      have hfl2 := Rn.flat_take_len rs (k + 1)
      rw [Hfl.out, ← Hl.out] at hfl2
      have hap := Hap.out k
      obtain ⟨⟨x, u⟩, hx⟩ : ∃ p, p = rs.getD k (0, 0) := ⟨_, rfl⟩
      rw [← hx] at x0 x1 hme hpo hfn hap
      dsimp only at x0 x1 hme hpo hfn hap
      rw [← Nat.add_assoc] at x1
      have hu2 : u ≤ 600 := by have := hme.2; have := Hl.out; omega
      have i1 : (k : Int) < (n2 : Int) := by omega
      have hd1 : decide (u < 1) = false := by simp; omega
      obtain ⟨U, hU⟩ := Int.eq_ofNat_of_zero_le (show 0 ≤ u by omega)
      have hMn : M + U = (Rn.flat (rs.take (k + 1))).length := by have := hM2.out; omega
      have HMn := Lib.hid hMn
      have hM3 : M + U ≤ 600 := by omega
      have Hx := Lib.hid hx
      clear hme hfn hMn hx hfl2
      subst hU
      by_cases hk0 : 0 < k
      · have hd : decide ((0 : Int) < (k : Int)) = true := by simp; omega
        obtain ⟨b', o', e', _, y0, _⟩ := hR2.at_ (k - 1) (by omega)
        simp only [Option.some.injEq, Addr.mk.injEq, and_true] at e'
        obtain ⟨rfl, rfl⟩ := e'
        obtain ⟨y, hy⟩ : ∃ y, y = (rs.getD (k - 1) (0, 0)).1 := ⟨_, rfl⟩
        have hxy := hap hk0 hkl
        rw [← hy] at y0 hxy
        have hbq : (x == y) = false := by rw [beq_eq_false_iff_ne]; exact hxy
        have hw1 : IntKind.i64.wrap ((k : Int) - 1) = (k : Int) - 1 := IntWalk.i64_in _ (by omega)
        have h01 : (0 : Int) ≤ (k : Int) - 1 := by omega
        have hl1 : (k : Int) - 1 < (n2 : Int) := by omega
        have ht1 : ((k : Int) - 1).toNat = k - 1 := by omega
        clear hy hxy hap
        go_wp2_with fail
        go_quiet (fail)
        go_wp2_with fail
        go_roundw
        case rel => exact ⟨k + 1, M + U, _, by go_num, by omega, by go_num, hM3, HMn, rfl⟩
        case measure => simp [intOf]; omega
      · have hd : decide ((0 : Int) < (k : Int)) = false := by simp; omega
        clear hap
        go_wp2_with fail
        go_quiet (fail)
        go_wp2_with fail
        go_roundw
        case rel => exact ⟨k + 1, M + U, _, by go_num, by omega, by go_num, hM3, HMn, rfl⟩
        case measure => simp [intOf]; omega
    · have eM : M = m := by
        have h := hM2.out
        rw [List.take_of_length_le (by have := Hn2.out; omega), Hfl.out, ← Hl.out] at h
        exact h
      have hb3 : Below w2.heap.size w2 (w2.drewN q) := Wd.below_drewN (Below.refl _ _) q
      obtain ⟨w3, hw3⟩ : ∃ w3, w3 = w2.drewN q := ⟨_, rfl⟩
      rw [← hw3] at hb3 ⊢
      have hS13 := hS12.below hb3
      have hW3 : Below w.heap.size w w3 := hW2.trans (hb3.mono hW2.size)
      subst eM
      clear hb3 hw3 hM2 hS12 hW2 hR2
      go_wp2_with fail
      refine (C2.out w3 hS13).mono ?_
      rintro e w4 ⟨A4, n4, k4, rfl, hS4, hB4⟩
      have hW4 : Below w.heap.size w w4 := hW3.trans (hB4.mono hW3.size)
      have hn4 : 2 ≤ n4 := by rw [hS4.len]; exact hel2
      have hn5 : n4 ≤ 100000 := by rw [hS4.len]; exact hel
      have hc4 := hS4.cap
      have hx4 := hS4.max
      unfold maxLen at hx4
      obtain ⟨b, o, rfl, hbB, hcell⟩ := hS4.rd 0 (by simp)
      have c0 : w4.cell? ⟨b, o, none⟩ = some (.int .u8 (K : Int)) := hcell
      have hcut := hS4.cut_at 1 (by omega) (by omega)
      have cg := refGetLen_any _ _ _ _ _ w4 hcut (by omega) (by have := Hl.out; omega)
      rw [← Hl.out] at cg
      have Cg := Lib.hid cg
      have hne : ((M : Int) != (M : Int)) = false := by simp
      have heq : ((M : Int) == (M : Int)) = true := by simp
      have h04 : (0 : Int) < (n4 : Int) := by omega
      have h05 : 0 < n4 := by omega
      have hd2 : decide ((n4 : Int) < 2) = false := by simp; omega
      have hdK : decide ((2 : Int) < (K : Int)) = false := by simp; omega
      clear cg hcut hcell hS4 hB4 hS13 hW3
      go_wp2_with fail
      refine Cg.out.mono ?_
      rintro e w5 ⟨rfl, rfl⟩
      go_wp2_with fail
      go_ret
      exact ⟨rfl, hW4⟩

theorem runsFew_walk (A : Option Addr) (m c : Nat) (l : List Int) (w : World) (hS : Wd.Sl w .i64 A m c l) (hF : Wd.Fits .i64 l) :
    Calls Try.prog 7 #[.slice A m c] w fun e w' => e = .returned (.bool true) ∧ Below w.heap.size w w' := by
  have hcap := hS.cap
  have hmax := hS.max
  unfold maxLen at hmax
  rcases (show 600 < m ∨ m ≤ 600 by omega) with h | h
  · go_enter Try.func7, Try.ntmps7
    go_wp2_with fail
    refine (awake_any w).mono ?_
    rintro e w1 ⟨rfl, hB⟩
    go_wp2_with fail
    go_ret
    exact ⟨rfl, hB⟩
  · exact runsFew_ok A m c l w hS (Wd.fits_of hF) h
end Lw
end Go.Proofs.Ytejhnmahmnbmkaa
