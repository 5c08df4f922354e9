/- slices.symMergeCmpFunc of a row of numbers, two neighbouring sorted stretches are merged. -/
import Derived.Deep.DeepCutAuto
import Derived.WalkKit
import Derived.Shelf.SlSortCmp.QuietGrown
import Derived.Shelf.RegionOpen
import Derived.Sort.WalkA
import Derived.Sort.WalkB2
import Derived.Sort.WalkB12
import Derived.Deep.LoopGhost
import Derived.Lib.Hide
import Derived.Test.YtoibpbnebcoafaaGreatPk17
import Derived.Test.YtoibpbnebcoafaaGreatProg
namespace Go.Proofs.YtoibpbnebcoafaaGreat
set_option maxRecDepth 20000
open Go.RowKit Go.Sort
namespace Ssm
/-- How a merge is parted: the ends of the search, and what it comes to. -/
structure Spl (cf : Nat → Nat → Int) (L R : List Nat) (a m b mid s0 r0 t : Nat) : Prop where
  m0 : mid + mid ≤ a + b ∧ a + b ≤ mid + mid + 1
  s : a ≤ s0 ∧ s0 ≤ t ∧ t ≤ r0 ∧ r0 ≤ m ∧ r0 ≤ mid ∧ mid + m ≤ b + s0
  big : mid < m → s0 + b = mid + m ∧ r0 = mid
  small : m ≤ mid → s0 = a ∧ r0 = m
  cut : ∀ q, s0 ≤ q → q < r0 → (¬ cf (R.getD (mid - 1 - q) 0) (L.getD (q - a) 0) < 0 ↔ q < t)
  srt : srt cf (L ++ R) = srt cf (L.take (t - a) ++ R.take (mid - t)) ++ srt cf (L.drop (t - a) ++ R.drop (mid - t))
theorem spl_ex {cf : Nat → Nat → Int} (W : Wk cf) {L R : List Nat} (hL : So cf L) (hR : So cf R) (hi : ∀ x ∈ L, ∀ y ∈ R, x ≤ y) {a m b : Nat} (hm : m = a + L.length) (hb : b = m + R.length) (h1 : 0 < L.length) (h2 : 0 < R.length) :
    ∃ mid s0 r0 t, Spl cf L R a m b mid s0 r0 t := by
  obtain ⟨mid, hmid⟩ : ∃ mid, mid = (a + b) / 2 := ⟨_, rfl⟩
  obtain ⟨s0, hs0⟩ : ∃ s0, s0 = if mid < m then mid + m - b else a := ⟨_, rfl⟩
  obtain ⟨r0, hr0⟩ : ∃ r0, r0 = if mid < m then mid else m := ⟨_, rfl⟩
  have q : a ≤ s0 ∧ s0 ≤ r0 ∧ r0 ≤ m ∧ r0 ≤ mid ∧ mid + m ≤ b + s0 := by
    rw [hs0, hr0]
    split <;> omega
  obtain ⟨t, t1, t2, hc⟩ := cut_at (fun q => decide (¬ cf (R.getD (mid - 1 - q) 0) (L.getD (q - a) 0) < 0)) s0 r0 q.2.1 (fun c d e1 e2 e3 e4 => by
    simp only [decide_eq_true_eq] at *
    exact sym_anti W hL hR hi (by omega) (by omega) (by omega) (by omega) e4)
  simp only [decide_eq_true_eq] at hc
  refine ⟨mid, s0, r0, t, by omega, by omega, fun h => ?_, fun h => ?_, hc, ?_⟩
  · rw [hs0, hr0, if_pos h, if_pos h]
    exact ⟨by omega, rfl⟩
  · rw [hs0, hr0, if_neg (by omega), if_neg (by omega)]
    exact ⟨rfl, rfl⟩
  · refine sym_split W hL hR hi (by omega) (by omega) ?_ ?_
    · by_cases e : s0 < t
      · right; right
        have := (hc (t - 1) (by omega) (by omega)).2 (by omega)
        rw [show mid - 1 - (t - 1) = mid - t by omega, show t - 1 - a = t - a - 1 by omega] at this
        exact this
      · by_cases g : mid < m
        · rw [if_pos g] at hs0
          right; left; omega
        · rw [if_neg g] at hs0
          left; omega
    · by_cases e : t < r0
      · right; right
        have := hc t (by omega) e
        rw [show mid - t - 1 = mid - 1 - t by omega]
        omega
      · by_cases g : mid < m
        · rw [if_pos g] at hr0
          right; left; omega
        · rw [if_neg g] at hr0
          left; omega
set_option maxHeartbeats 16000000 in
theorem sym_any {f : Nat} {cap : Array Value} {cf : Nat → Nat → Int} (W : Wk cf) {g N : Nat} {w0 : World} (C : Cmp f cap cf g N w0) : ∀ (dep : Nat) (P L R S : List Nat) (a m b n c : Nat) (w : World), b - a ≤ dep → a = P.length → m = a + L.length → b = m + R.length → 0 < L.length → 0 < R.length →
    So cf L → So cf R → (∀ x ∈ L, ∀ y ∈ R, x ≤ y) → n = (P ++ (L ++ (R ++ S))).length → n ≤ 1000000000 → Sw w0 g N (P ++ (L ++ (R ++ S))) w →
    Calls Tryz.prog 110 #[.slice (some ⟨g, 0, none⟩) n c, .int .i64 (a : Int), .int .i64 (m : Int), .int .i64 (b : Int), .func (.func f) #[] cap] w fun e' w' => e' = .returned (.tuple #[]) ∧ Sw w0 g N (P ++ (srt cf (L ++ R) ++ S)) w' := by
  intro dep
  induction dep with
  | zero => intro P L R S a m b n c w h1 h2 h3 h4 h5 h6; omega
  | succ dep ih =>
    intro P L R S a m b n c w hd ha hmm hb hL0 hR0 hL hR hi hn hm h
    by_cases hL1 : L.length = 1
    · obtain ⟨e, rfl⟩ := List.length_eq_one_iff.1 hL1
      exact sym_one W C P R S e a m b n c w ha hmm hb hR (fun y hy => hi e (by simp) y hy) hn hm h
    by_cases hR1 : R.length = 1
    · obtain ⟨e, rfl⟩ := List.length_eq_one_iff.1 hR1
      exact sym_last W C P L S e a m b n c w ha hmm hb (by omega) hL (fun y hy => hi y hy e (by simp)) hn hm h
    have mixed := mixed
    have eg := C.goes
    obtain ⟨mid, s0, r0, t, hs⟩ := spl_ex W hL hR hi hmm hb hL0 hR0
    have q0 := hs.m0
    have q1 := hs.s
    have q2 := hs.big
    have q3 := hs.small
    have hbn : b ≤ n := by simp only [List.length_append] at hn; omega
    have am : ((m : Int) - (a : Int) == 1) = false := by simp; omega
    have bm : ((b : Int) - (m : Int) == 1) = false := by simp; omega
    -- the lists of the way
    obtain ⟨L1, hL1e⟩ : ∃ x, x = L.take (t - a) := ⟨_, rfl⟩
    obtain ⟨L2, hL2e⟩ : ∃ x, x = L.drop (t - a) := ⟨_, rfl⟩
    obtain ⟨R1, hR1e⟩ : ∃ x, x = R.take (mid - t) := ⟨_, rfl⟩
    obtain ⟨R2, hR2e⟩ : ∃ x, x = R.drop (mid - t) := ⟨_, rfl⟩
    have lL1 : L1.length = t - a := by rw [hL1e, List.length_take]; omega
    have lL2 : L2.length = m - t := by rw [hL2e, List.length_drop]; omega
    have lR1 : R1.length = mid - t := by rw [hR1e, List.length_take]; omega
    have lR2 : R2.length = b - m - (mid - t) := by rw [hR2e, List.length_drop]; omega
    have sL1 : So cf L1 := by rw [hL1e]; exact List.Pairwise.sublist (List.take_sublist _ _) hL
    have sL2 : So cf L2 := by rw [hL2e]; exact List.Pairwise.sublist (List.drop_sublist _ _) hL
    have sR1 : So cf R1 := by rw [hR1e]; exact List.Pairwise.sublist (List.take_sublist _ _) hR
    have sR2 : So cf R2 := by rw [hR2e]; exact List.Pairwise.sublist (List.drop_sublist _ _) hR
    have i1 : ∀ x ∈ L1, ∀ y ∈ R1, x ≤ y := fun x hx y hy => hi x (by rw [hL1e] at hx; exact List.mem_of_mem_take hx) y (by rw [hR1e] at hy; exact List.mem_of_mem_take hy)
    have i2 : ∀ x ∈ L2, ∀ y ∈ R2, x ≤ y := fun x hx y hy => hi x (by rw [hL2e] at hx; exact List.mem_of_mem_drop hx) y (by rw [hR2e] at hy; exact List.mem_of_mem_drop hy)
    have hsrt := hs.srt
    rw [← hL1e, ← hR1e, ← hL2e, ← hR2e] at hsrt
    have eL : L = L1 ++ L2 := by rw [hL1e, hL2e, List.take_append_drop]
    have eR : R = R1 ++ R2 := by rw [hR1e, hR2e, List.take_append_drop]
    rw [hsrt]
    have en0 : t ≤ mid + m := by omega
    obtain ⟨nn, hnn⟩ : ∃ z, z = mid + m := ⟨_, rfl⟩
    obtain ⟨p, hp⟩ : ∃ z, z + 1 = nn := ⟨nn - 1, by omega⟩
    obtain ⟨en, hen⟩ : ∃ z, z + t = nn := ⟨nn - t, by omega⟩
    -- the three worlds' rows
    have K0 : P ++ (L ++ (R ++ S)) = (P ++ L1) ++ (L2 ++ (R1 ++ (R2 ++ S))) := by rw [eL, eR]; simp
    have rot := Lib.hid (fun (wx : World) (q : Sw w0 g N (P ++ (L ++ (R ++ S))) wx) (h1 : t < m) (h2 : m < en) => by
      have := rotate_any f cap (P ++ L1) L2 R1 (R2 ++ S) t m en n c wx (by rw [List.length_append]; omega) (by omega) (by omega) (by omega) (by omega) (by rw [hn, K0]) hm (by rw [← K0]; exact q)
      exact this)
    have norot := Lib.hid (fun (wx : World) (q : Sw w0 g N (P ++ (L ++ (R ++ S))) wx) (h1 : ¬ (t < m ∧ m < en)) => by
      have e : P ++ (L ++ (R ++ S)) = (P ++ L1) ++ (R1 ++ (L2 ++ (R2 ++ S))) := by
        rw [K0]
        by_cases z : m ≤ t
        · have : L2 = [] := List.eq_nil_of_length_eq_zero (by omega)
          rw [this]
          rfl
        · have : R1 = [] := List.eq_nil_of_length_eq_zero (by omega)
          rw [this]
          rfl
      rw [e] at q
      exact q)
    have K1 : (P ++ L1) ++ (R1 ++ (L2 ++ (R2 ++ S))) = P ++ (L1 ++ (R1 ++ (L2 ++ (R2 ++ S)))) := by simp
    have rec1 := Lib.hid (fun (wx : World) (q : Sw w0 g N ((P ++ L1) ++ (R1 ++ (L2 ++ (R2 ++ S)))) wx) (h1 : a < t) (h2 : t < mid) => by
      rw [K1] at q
      exact ih P L1 R1 (L2 ++ (R2 ++ S)) a t mid n c wx (by omega) ha (by omega) (by omega) (by omega) (by omega) sL1 sR1 i1 (by rw [hn, K0]; simp only [List.length_append]; omega) hm q)
    have norec1 := Lib.hid (fun (wx : World) (q : Sw w0 g N ((P ++ L1) ++ (R1 ++ (L2 ++ (R2 ++ S)))) wx) (h1 : ¬ (a < t ∧ t < mid)) => by
      have e : (P ++ L1) ++ (R1 ++ (L2 ++ (R2 ++ S))) = P ++ (srt cf (L1 ++ R1) ++ (L2 ++ (R2 ++ S))) := by
        rw [K1]
        by_cases z : t ≤ a
        · have : L1 = [] := List.eq_nil_of_length_eq_zero (by omega)
          rw [this, List.nil_append, List.nil_append, srt_id W sR1]
        · have : R1 = [] := List.eq_nil_of_length_eq_zero (by omega)
          rw [this, List.nil_append, List.append_nil, srt_id W sL1]
      rw [e] at q
      exact q)
    have K2 : P ++ (srt cf (L1 ++ R1) ++ (L2 ++ (R2 ++ S))) = (P ++ srt cf (L1 ++ R1)) ++ (L2 ++ (R2 ++ S)) := by simp
    have K3 : P ++ ((srt cf (L1 ++ R1) ++ srt cf (L2 ++ R2)) ++ S) = (P ++ srt cf (L1 ++ R1)) ++ (srt cf (L2 ++ R2) ++ S) := by simp
    have rec2 := Lib.hid (fun (wx : World) (q : Sw w0 g N (P ++ (srt cf (L1 ++ R1) ++ (L2 ++ (R2 ++ S)))) wx) (h1 : mid < en) (h2 : en < b) => by
      rw [K2] at q
      have := ih (P ++ srt cf (L1 ++ R1)) L2 R2 S mid en b n c wx (by omega) (by rw [List.length_append, srt_len, List.length_append]; omega) (by omega) (by omega) (by omega) (by omega) sL2 sR2 i2 (by rw [hn, K0]; simp only [List.length_append, srt_len]; omega) hm q
      rw [← K3] at this
      exact this)
    have norec2 := Lib.hid (fun (wx : World) (q : Sw w0 g N (P ++ (srt cf (L1 ++ R1) ++ (L2 ++ (R2 ++ S)))) wx) (h1 : ¬ (mid < en ∧ en < b)) => by
      have e : P ++ (srt cf (L1 ++ R1) ++ (L2 ++ (R2 ++ S))) = P ++ ((srt cf (L1 ++ R1) ++ srt cf (L2 ++ R2)) ++ S) := by
        by_cases z : en ≤ mid
        · have : L2 = [] := List.eq_nil_of_length_eq_zero (by omega)
          rw [this, List.nil_append, List.nil_append, srt_id W sR2]
          simp
        · have : R2 = [] := List.eq_nil_of_length_eq_zero (by omega)
          rw [this, List.nil_append, List.append_nil, srt_id W sL2]
          simp
      rw [e] at q
      exact q)
    obtain ⟨X, hX⟩ : ∃ X, X = P ++ (L ++ (R ++ S)) := ⟨_, rfl⟩
    have xl : ∀ q, a ≤ q → q < m → X.getD q 0 = L.getD (q - a) 0 := fun q e1 e2 => by
      have := getD_mid (X := P) (L := L) (Y := R ++ S) (i := q - a) (by omega)
      rw [hX, ← this]
      congr 1
      omega
    have xr : ∀ q, m ≤ q → q < b → X.getD q 0 = R.getD (q - m) 0 := fun q e1 e2 => by
      have := getD_mid (X := P ++ L) (L := R) (Y := S) (i := q - m) (by omega)
      have e : P ++ (L ++ (R ++ S)) = (P ++ L) ++ (R ++ S) := by simp
      rw [hX, e, ← this]
      congr 1
      rw [List.length_append]
      omega
    rw [← hX] at h hn rot norot
    have Hn := Lib.hid hn
    have Hcut := Lib.hid (fun q (e1 : s0 ≤ q) (e2 : q < r0) => by
      have := hs.cut q e1 e2
      rw [← xl q (by omega) (by omega), show mid - 1 - q = (p - q) - m by omega, ← xr (p - q) (by omega) (by omega)] at this
      exact this)
    have HC := Lib.hid C
    have H0 := Lib.hid h
    have HB := Lib.hid q2
    have HSm := Lib.hid q3
    have zmid : ((a : Int) + (b : Int)) / 2 = (mid : Int) := by omega
    have znn : (mid : Int) + (m : Int) = (nn : Int) := by omega
    have zp : (nn : Int) - 1 = (p : Int) := by omega
    have zen : (nn : Int) - (t : Int) = (en : Int) := by omega
    have bds : a < m ∧ m < b ∧ b ≤ n ∧ mid < b ∧ a < mid := by omega
    have b2 : a ≤ s0 ∧ s0 ≤ t ∧ t ≤ r0 ∧ r0 ≤ m ∧ r0 ≤ mid ∧ mid + m ≤ b + s0 := q1
    have b3 : nn ≤ mid + m ∧ mid + m ≤ nn ∧ p + 1 ≤ nn ∧ nn ≤ p + 1 ∧ en + t ≤ nn ∧ nn ≤ en + t := by omega
    clear q0 q1 q2 q3 hs ih C h hn hX xl xr hsrt eL eR sL1 sL2 sR1 sR2 i1 i2 lL1 lL2 lR1 lR2 hL1e hL2e hR1e hR2e hd ha hmm hb hL0 hR0 hL1 hR1 en0 hnn hp hen K0 K1 K2 K3 hbn
    go_enter Tryz.func110, Tryz.ntmps110
    go_upto_if 140 with fail
    go_cut [20, 21] (fun sv rv wz => sv = .int .i64 (s0 : Int) ∧ rv = .int .i64 (r0 : Int) ∧ wz = w)
    case first =>
      as_aux_lemma =>
        by_cases hgt : mid < m
        · have hI : (mid : Int) < (m : Int) := by omega
          obtain ⟨z1, z2⟩ := HB.out hgt
          have zs : (nn : Int) - (b : Int) = (s0 : Int) := by omega
          have zr : (r0 : Int) = (mid : Int) := by omega
          clear z1 z2
          go_wp2_with fail
          go_meet
          exact ⟨rfl, by rw [zr], rfl⟩
        · have hI : ¬ (mid : Int) < (m : Int) := by omega
          obtain ⟨z1, z2⟩ := HSm.out (by omega)
          have zs : (s0 : Int) = (a : Int) := by omega
          have zr : (r0 : Int) = (m : Int) := by omega
          clear z1 z2
          go_wp2_with fail
          go_meet
          exact ⟨by rw [zs], by rw [zr], rfl⟩
    case rest =>
      obtain ⟨rfl, rfl, hw⟩ := hcut
      rw [hw]
      clear hw
      go_wp2_with fail
      go_loopw [20, 21] (fun vi vj wr => ∃ (i j : Nat), vi = .int .i64 i ∧ vj = .int .i64 j ∧ s0 ≤ i ∧ i ≤ t ∧ t ≤ j ∧ j ≤ r0 ∧ Hid (Sw w0 g N X wr)) (fun vi vj _ => (intOf vj - intOf vi).toNat)
      case atStart => exact ⟨s0, r0, rfl, rfl, Nat.le_refl _, b2.2.1, b2.2.2.1, Nat.le_refl _, H0⟩
      case round =>
        obtain ⟨i, j, rfl, rfl, h1, h2, h3, h4, HS⟩ := hrel
        by_cases hlt : i < j
        · have hI : (i : Int) < (j : Int) := by omega
          obtain ⟨hN, hhN⟩ : ∃ q, q = (i + j) / 2 := ⟨_, rfl⟩
          have zh : i ≤ hN ∧ hN < j := by omega
          have zc : ((i : Int) + (j : Int)) / 2 = (hN : Int) := by omega
          obtain ⟨pN, hpN⟩ : ∃ q, q + hN = p := ⟨p - hN, by omega⟩
          have ep : (p : Int) - (hN : Int) = (pN : Int) := by omega
          have bp : (pN : Int) < (n : Int) := by omega
          have rp : IntKind.i64.wrap (pN : Int) = (pN : Int) := by rw [IntKind.wrap_i64]; omega
          have bh : (hN : Int) < (n : Int) := by omega
          have l1 := HS.out.cells hN (by have := Hn.out; omega)
          have l2 := HS.out.cells pN (by have := Hn.out; omega)
          have b1 := HS.out.bd hN (by have := Hn.out; omega)
          have b4 := HS.out.bd pN (by have := Hn.out; omega)
          have hc0 := Hcut.out hN (by omega) (by omega)
          rw [show p - hN = pN by omega] at hc0
          generalize X.getD hN 0 = y at *
          generalize X.getD pN 0 = x at *
          have hc := HS.out.cmp HC.out b4 b1
          have Hh := Lib.hid hhN
          clear hhN hpN
          by_cases hv : cf x y < 0
          · as_aux_lemma =>
              have hdv : decide (cf x y < 0) = true := decide_eq_true hv
              have hht : t ≤ hN := by omega
              clear hc0
              go_wp2_with fail
              go_quiet_grown (first | (go_at_fn f; refine Calls.grown_of (hc _ _)))
              have S2 := Lib.hid (HS.out.grown nq osq)
              clear l1 l2 hc HS ep
              generalize grow (wr.drewN nq) osq = w2 at S2 ⊢
              clear nq osq
              go_wp2_with fail
              go_roundw
              case rel => exact ⟨i, hN, rfl, rfl, h1, h2, hht, by omega, S2⟩
              case measure => simp [intOf]; omega
          · as_aux_lemma =>
              have hdv : decide (cf x y < 0) = false := decide_eq_false hv
              have hht : hN < t := by omega
              clear hc0
              go_wp2_with fail
              go_quiet_grown (first | (go_at_fn f; refine Calls.grown_of (hc _ _)))
              have S2 := Lib.hid (HS.out.grown nq osq)
              clear l1 l2 hc HS ep
              generalize grow (wr.drewN nq) osq = w2 at S2 ⊢
              clear nq osq
              go_wp2_with fail
              go_roundw
              case rel => exact ⟨hN + 1, j, by go_num, rfl, by omega, by omega, h3, h4, S2⟩
              case measure => simp [intOf]; omega
        · have hI : ¬ (i : Int) < (j : Int) := by omega
          obtain rfl : t = i := by omega
          clear Hcut H0 HB HSm
          go_upto_region 39 with fail
          obtain ⟨bb, hbb⟩ : ∃ bb, bb = (decide (t < m) && decide (m < en)) := ⟨_, rfl⟩
          have Hbb := Lib.hid hbb
          clear hbb
          go_cut [185] (fun bv wz => bv = .bool bb ∧ wz = wr)
          case first =>
            as_aux_lemma =>
              have zb := Hbb.out
              clear Hbb
              by_cases c1 : t < m
              · have d1 : (t : Int) < (m : Int) := by omega
                by_cases c2 : m < en
                · have d2 : (m : Int) < (en : Int) := by omega
                  have zb' := Lib.hid (show bb = true by rw [zb]; simp [c1, c2])
                  clear zb
                  go_wp2_with fail
                  go_meet
                  exact ⟨by rw [zb'.out], rfl⟩
                · have d2 : ¬ (m : Int) < (en : Int) := by omega
                  have zb' := Lib.hid (show bb = false by rw [zb]; simp [c2])
                  clear zb
                  go_wp2_with fail
                  go_meet
                  exact ⟨by rw [zb'.out], rfl⟩
              · have d1 : ¬ (t : Int) < (m : Int) := by omega
                have zb' := Lib.hid (show bb = false by rw [zb]; simp [c1])
                clear zb
                go_wp2_with fail
                go_meet
                exact ⟨by rw [zb'.out], rfl⟩
          case rest =>
            obtain ⟨rfl, hw⟩ := hcut
            rw [hw]
            clear hw
            go_upto_if 185 with fail
            go_cut [] (fun wz => Hid (Sw w0 g N ((P ++ L1) ++ (R1 ++ (L2 ++ (R2 ++ S)))) wz))
            case first =>
              as_aux_lemma =>
                have zb := Hbb.out
                clear Hbb
                cases bb
                · have hr := Lib.hid (norot.out wr HS.out (fun ⟨e1, e2⟩ => by simp [e1, e2] at zb))
                  clear zb HS rot norot
                  go_wp2_with fail
                  go_meet
                  exact hr
                · have zb2 : t < m ∧ m < en := by simpa using zb.symm
                  have hr := Lib.hid (rot.out wr HS.out zb2.1 zb2.2)
                  clear zb zb2 HS rot norot
                  go_wp2_with fail
                  refine hr.out.mono ?_
                  rintro e w' ⟨rfl, h1⟩
                  have h1' := Lib.hid h1
                  clear h1 hr
                  go_wp2_with fail
                  go_meet
                  exact h1'
            case rest =>
              have HS1 := hcut
              clear hcut Hbb HS rot norot
              go_upto_region 41 with fail
              obtain ⟨bb2, hbb⟩ : ∃ bb, bb = (decide (a < t) && decide (t < mid)) := ⟨_, rfl⟩
              have Hbb := Lib.hid hbb
              clear hbb
              obtain ⟨wd, hwd⟩ : ∃ wd : World, wd = wc := ⟨_, rfl⟩
              rw [← hwd] at HS1 ⊢
              clear hwd wc
              go_cut [199] (fun bv wz => bv = .bool bb2 ∧ wz = wd)
              case first =>
                as_aux_lemma =>
                  have zb := Hbb.out
                  clear Hbb
                  by_cases c1 : a < t
                  · have d1 : (a : Int) < (t : Int) := by omega
                    by_cases c2 : t < mid
                    · have d2 : (t : Int) < (mid : Int) := by omega
                      have zb' := Lib.hid (show bb2 = true by rw [zb]; simp [c1, c2])
                      clear zb
                      go_wp2_with fail
                      go_meet
                      exact ⟨by rw [zb'.out], rfl⟩
                    · have d2 : ¬ (t : Int) < (mid : Int) := by omega
                      have zb' := Lib.hid (show bb2 = false by rw [zb]; simp [c2])
                      clear zb
                      go_wp2_with fail
                      go_meet
                      exact ⟨by rw [zb'.out], rfl⟩
                  · have d1 : ¬ (a : Int) < (t : Int) := by omega
                    have zb' := Lib.hid (show bb2 = false by rw [zb]; simp [c1])
                    clear zb
                    go_wp2_with fail
                    go_meet
                    exact ⟨by rw [zb'.out], rfl⟩
              case rest =>
                obtain ⟨rfl, hw⟩ := hcut
                rw [hw]
                clear hw wc
                go_upto_if 199 with fail
                go_cut [] (fun wz => Hid (Sw w0 g N (P ++ (srt cf (L1 ++ R1) ++ (L2 ++ (R2 ++ S)))) wz))
                case first =>
                  as_aux_lemma =>
                    have zb := Hbb.out
                    clear Hbb
                    cases bb2
                    · have hr := Lib.hid (norec1.out wd HS1.out (fun ⟨e1, e2⟩ => by simp [e1, e2] at zb))
                      clear zb HS1 rec1 norec1
                      go_wp2_with fail
                      go_meet
                      exact hr
                    · have zb2 : a < t ∧ t < mid := by simpa using zb.symm
                      have hr := Lib.hid (rec1.out wd HS1.out zb2.1 zb2.2)
                      clear zb zb2 HS1 rec1 norec1
                      go_wp2_with fail
                      refine hr.out.mono ?_
                      rintro e w' ⟨rfl, h1⟩
                      have h1' := Lib.hid h1
                      clear h1 hr
                      go_wp2_with fail
                      go_meet
                      exact h1'
                case rest =>
                  have HS2 := hcut
                  clear hcut Hbb HS1 rec1 norec1
                  by_cases c1 : mid < en
                  · have d1 : (mid : Int) < (en : Int) := by omega
                    by_cases c2 : en < b
                    · have d2 : (en : Int) < (b : Int) := by omega
                      have hr := Lib.hid (rec2.out wc HS2.out c1 c2)
                      clear HS2 rec2 norec2
                      go_wp2_with fail
                      refine hr.out.mono ?_
                      rintro e w' ⟨rfl, h1⟩
                      have h1' := Lib.hid h1
                      clear h1 hr
                      go_wp2_with fail
                      go_end0
                      exact ⟨rfl, h1'.out⟩
                    · have d2 : ¬ (en : Int) < (b : Int) := by omega
                      have hr := Lib.hid (norec2.out wc HS2.out (fun ⟨_, e2⟩ => c2 e2))
                      clear HS2 rec2 norec2
                      go_wp2_with fail
                      go_end0
                      exact ⟨rfl, by have := hr.out; rw [List.append_assoc] at this; exact this⟩
                  · have d1 : ¬ (mid : Int) < (en : Int) := by omega
                    have hr := Lib.hid (norec2.out wc HS2.out (fun ⟨e1, _⟩ => c1 e1))
                    clear HS2 rec2 norec2
                    go_wp2_with fail
                    go_end0
                    exact ⟨rfl, by have := hr.out; rw [List.append_assoc] at this; exact this⟩
end Ssm
end Go.Proofs.YtoibpbnebcoafaaGreat
