/- Package journal: Read of what File and framed made, or of a beginning of it. -/
import Derived.Test.YtljgalleiemaaaaPk20
import Derived.Test.YtljgalleiemaaaaPk22
namespace Go.Proofs.Ytljgalleiemaaaa
set_option maxRecDepth 20000
open Go.RowKit
namespace Jr
open Jo (En May Wf Rg Pt app1 put head)
open Wd (Pv Pc Es Lv Bx Sl Ss)
theorem ss_tail {w : World} {b o n c : Nat} {y : List Int} {ys : List (List Int)} (h : Ss w (some ⟨b, o, none⟩) n c (y :: ys)) : Ss w (if c = 1 then some ⟨b, o, none⟩ else some ⟨b, o + 1, none⟩) (n - 1) (c - 1) ys := by
  have hl := h.len
  have hc := h.cap
  rw [List.length_cons] at hl
  refine ⟨by omega, by omega, by have := h.max; omega, (fun e => by split at e <;> cases e), fun j hj => ?_⟩
  obtain ⟨b', o', A', n', c', e, h1, h2, h3⟩ := h.at_ (j + 1) (by simpa using hj)
  cases e
  refine ⟨b, o + 1, A', n', c', by rw [if_neg (by omega)], h1, by rw [Nat.add_assoc, Nat.add_comm 1 j]; exact h2, by simpa using h3⟩
theorem ss_first {w : World} {A : Option Addr} {n c : Nat} {y : List Int} {ys : List (List Int)} (h : Ss w A n c (y :: ys)) : ∃ b o A' n' c', A = some ⟨b, o, none⟩ ∧ b < w.heap.size ∧ w.cell? ⟨b, o, none⟩ = some (.slice A' n' c') ∧ Sl w .u8 A' n' c' y := by
  obtain ⟨b, o, A', n', c', e, h1, h2, h3⟩ := h.at_ 0 (by simp)
  exact ⟨b, o, A', n', c', e, h1, by simpa using h2, by simpa using h3⟩
theorem pm_nil {w : World} {B b : Nat} (hb : Bx w b 53 #[.int .i64 0, .int .i64 0, .slice none 0 0, .int .i64 0, .int .i64 0, .slice none 0 0, .int .i64 0, .int .i64 0, .slice none 0 0, .int .i64 0, .int .i64 0, .slice none 0 0]) : Pm w B b default default default default Jo.nil_ := by
  have hs : ∀ i, sel default default default default i = default := fun i => by unfold sel; split <;> rfl
  refine ⟨rfl, hb, fun i _ => ?_, fun i _ => ?_, fun i _ => ?_, fun i k _ _ _ g _ => ?_⟩
  · rw [hs]; exact Lv.nil w B
  · rw [hs]; simp [Rg, default]
  · rw [hs]; intro h; exact absurd h (Nat.lt_irrefl 0)
  · rw [hs]; intro h; exact absurd h (Nat.lt_irrefl 0)
/-- What Read answers where there is no journal. -/
def OutN (w : World) (e : Ending) (w' : World) : Prop := e = .returned (.tuple #[.agg #[.int .i64 0, .int .i64 0, .slice none 0 0, .int .i64 0, .int .i64 0, .slice none 0 0, .int .i64 0, .int .i64 0, .slice none 0 0, .int .i64 0, .int .i64 0, .slice none 0 0], .bool false]) ∧ Below w.heap.size w w'
set_option maxHeartbeats 4000000 in
theorem read_none (no : Int) (A : Option Addr) (n c : Nat) (bs : List Int) (w : World) (hS : Sl w .u8 A n c bs) (hm : n ≤ 1000000) (hB : Nm.Byt bs) (hr : (Fr.rd bs).1 = []) :
    Calls Try.prog 15 #[.int .i64 no, .slice A n c] w (OutN w) := by
  have al := (Below.refl w.heap.size w).alloc (Nat.le_refl _) (.cells #[.int .i64 0, .int .i64 0, .slice none 0 0, .int .i64 0, .int .i64 0, .slice none 0 0, .int .i64 0, .int .i64 0, .slice none 0 0, .int .i64 0, .int .i64 0, .slice none 0 0] 27)
  have rb := Bx.new w 27 #[.int .i64 0, .int .i64 0, .slice none 0 0, .int .i64 0, .int .i64 0, .slice none 0 0, .int .i64 0, .int .i64 0, .slice none 0 0, .int .i64 0, .int .i64 0, .slice none 0 0]
  obtain ⟨w1, hw1⟩ : ∃ w1, w1 = w.alloc (.cells #[.int .i64 0, .int .i64 0, .slice none 0 0, .int .i64 0, .int .i64 0, .slice none 0 0, .int .i64 0, .int .i64 0, .slice none 0 0, .int .i64 0, .int .i64 0, .slice none 0 0] 27) := ⟨_, rfl⟩
  rw [← hw1] at al rb
  have C1 := Lib.hid (Fc.read_any A n c bs w1 (hS.below al) hm hB)
  have B1 := Lib.hid al
  have RB := Lib.hid rb
  have HR := Lib.hid hr
  have Hw1 := Lib.hid hw1
  clear al rb hw1 hS hB hr
  go_enter Try.func15, Try.ntmps15
  go_upto_region 1 with fail
  rw [← Hw1.out]
  go_wp2_with fail
  refine C1.out.mono ?_
  rintro e w2 ⟨A2, n2, c2, rfl, hS2, hB2⟩
  rw [HR.out] at hS2
  have hn2 : n2 = 0 := hS2.len
  subst hn2
  have B2 := Lib.hid (B1.out.trans (hB2.mono B1.out.size))
  obtain ⟨⟨d0, d1, d2, d3, d4, d5, d6, d7, d8, d9, d10, d11⟩, ⟨f0, f1, f2, f3, f4, f5, f6, f7, f8, f9, f10, f11⟩⟩ := twelve (RB.out.below RB.out.lt hB2)
  clear hS2 hB2
  go_wp2_with fail
  refine bodyPost_ret (v := .tuple #[.agg #[.int .i64 0, .int .i64 0, .slice none 0 0, .int .i64 0, .int .i64 0, .slice none 0 0, .int .i64 0, .int .i64 0, .slice none 0 0, .int .i64 0, .int .i64 0, .slice none 0 0], .bool false]) ?_ rfl ⟨rfl, below12 B2.out (Nat.le_refl _) _ _ _ _ _ _ _ _ _ _ _ _⟩
  rw [res_cell2 rfl]; go_simp
set_option maxHeartbeats 4000000 in
theorem read_other (no no' : Int) (A : Option Addr) (n c : Nat) (bs : List Int) (k : Nat) (ys : List (List Int)) (w : World) (hS : Sl w .u8 A n c bs) (hm : n ≤ 1000000) (hB : Nm.Byt bs) (hr : (Fr.rd bs).1 = head no' k :: ys) (h0 : 0 ≤ no) (h1 : no ≤ 1073741824) (g0 : 0 ≤ no') (g1 : no' ≤ 1073741824) (hne : no' ≠ no) (hk : k ≤ 4096) :
    Calls Try.prog 15 #[.int .i64 no, .slice A n c] w (OutN w) := by
  have al := (Below.refl w.heap.size w).alloc (Nat.le_refl _) (.cells #[.int .i64 0, .int .i64 0, .slice none 0 0, .int .i64 0, .int .i64 0, .slice none 0 0, .int .i64 0, .int .i64 0, .slice none 0 0, .int .i64 0, .int .i64 0, .slice none 0 0] 27)
  have rb := Bx.new w 27 #[.int .i64 0, .int .i64 0, .slice none 0 0, .int .i64 0, .int .i64 0, .slice none 0 0, .int .i64 0, .int .i64 0, .slice none 0 0, .int .i64 0, .int .i64 0, .slice none 0 0]
  obtain ⟨w1, hw1⟩ : ∃ w1, w1 = w.alloc (.cells #[.int .i64 0, .int .i64 0, .slice none 0 0, .int .i64 0, .int .i64 0, .slice none 0 0, .int .i64 0, .int .i64 0, .slice none 0 0, .int .i64 0, .int .i64 0, .slice none 0 0] 27) := ⟨_, rfl⟩
  rw [← hw1] at al rb
  have C1 := Lib.hid (Fc.read_any A n c bs w1 (hS.below al) hm hB)
  have B1 := Lib.hid al
  have RB := Lib.hid rb
  have HR := Lib.hid hr
  have Hw1 := Lib.hid hw1
  have HH := Lib.hid (And.intro h0 (And.intro h1 (And.intro g0 (And.intro g1 (And.intro hne hk)))))
  clear al rb hw1 hS hB hr h0 h1 g0 g1 hne hk
  go_enter Try.func15, Try.ntmps15
  go_upto_region 1 with fail
  rw [← Hw1.out]
  go_wp2_with fail
  refine C1.out.mono ?_
  rintro e w2 ⟨A2, n2, c2, rfl, hS2, hB2⟩
  rw [HR.out] at hS2
  have hn2 : 0 < n2 := by rw [hS2.len]; simp
  have k1 : ((n2 : Int) == 0) = false := by simp; omega
  have k2 : (0 : Int) < (n2 : Int) := by omega
  obtain ⟨pb, po, A3, n3, c3, hA, hpl, hpc, hps⟩ := ss_first hS2
  have Cc := Lib.hid (countIn_no A3 n3 c3 no no' k w2 hps HH.out.1 HH.out.2.1 HH.out.2.2.1 HH.out.2.2.2.1 HH.out.2.2.2.2.1 HH.out.2.2.2.2.2)
  have B2 := Lib.hid (B1.out.trans (hB2.mono B1.out.size))
  have RB2 := Lib.hid (RB.out.below RB.out.lt hB2)
  subst hA
  clear hS2 hB2 hps
  go_wp2_with fail
  refine Cc.out.mono ?_
  rintro e w3 ⟨rfl, hB3⟩
  have B3 := Lib.hid (B2.out.trans (hB3.mono B2.out.size))
  obtain ⟨⟨d0, d1, d2, d3, d4, d5, d6, d7, d8, d9, d10, d11⟩, ⟨f0, f1, f2, f3, f4, f5, f6, f7, f8, f9, f10, f11⟩⟩ := twelve (RB2.out.below RB2.out.lt hB3)
  clear hB3 hpc
  go_wp2_with fail
  refine bodyPost_ret (v := .tuple #[.agg #[.int .i64 0, .int .i64 0, .slice none 0 0, .int .i64 0, .int .i64 0, .slice none 0 0, .int .i64 0, .int .i64 0, .slice none 0 0, .int .i64 0, .int .i64 0, .slice none 0 0], .bool false]) ?_ rfl ⟨rfl, below12 B3.out (Nat.le_refl _) _ _ _ _ _ _ _ _ _ _ _ _⟩
  rw [res_cell2 rfl]; go_simp
/-- What Read answers where the file tells the entries xs, k of them from the beginning. -/
def OutR (w : World) (k n : Nat) (i : Jo.Jn) (e : Ending) (w' : World) : Prop := (n < k → OutN w e w') ∧ (k ≤ n → ∃ q0 q1 q2 q3, e = .returned (.tuple #[.agg #[.int .i64 q0.g, .int .i64 q0.b, .slice q0.A q0.n q0.c, .int .i64 q1.g, .int .i64 q1.b, .slice q1.A q1.n q1.c, .int .i64 q2.g, .int .i64 q2.b, .slice q2.A q2.n q2.c, .int .i64 q3.g, .int .i64 q3.b, .slice q3.A q3.n q3.c], .bool true]) ∧ Jv w' q0 q1 q2 q3 i ∧ Below w.heap.size w w')
set_option maxHeartbeats 8000000 in
theorem read_main (no : Int) (A : Option Addr) (n c : Nat) (bs : List Int) (k : Nat) (xs : List En) (i : Jo.Jn) (w : World) (hS : Sl w .u8 A n c bs) (hm : n ≤ 1000000) (hB : Nm.Byt bs) (hr : (Fr.rd bs).1 = head no k :: xs.map put) (h0 : 0 ≤ no) (h1 : no ≤ 1073741824) (hk : k ≤ 4096) (hx : ∀ x ∈ xs, May x) (hi : Jo.made Jo.nil_ xs = some i) (hl : xs.length ≤ 300000) :
    Calls Try.prog 15 #[.int .i64 no, .slice A n c] w (OutR w k xs.length i) := by
  have al := (Below.refl w.heap.size w).alloc (Nat.le_refl _) (.cells #[.int .i64 0, .int .i64 0, .slice none 0 0, .int .i64 0, .int .i64 0, .slice none 0 0, .int .i64 0, .int .i64 0, .slice none 0 0, .int .i64 0, .int .i64 0, .slice none 0 0] 27)
  have rb := Bx.new w 27 #[.int .i64 0, .int .i64 0, .slice none 0 0, .int .i64 0, .int .i64 0, .slice none 0 0, .int .i64 0, .int .i64 0, .slice none 0 0, .int .i64 0, .int .i64 0, .slice none 0 0]
  obtain ⟨w1, hw1⟩ : ∃ w1, w1 = w.alloc (.cells #[.int .i64 0, .int .i64 0, .slice none 0 0, .int .i64 0, .int .i64 0, .slice none 0 0, .int .i64 0, .int .i64 0, .slice none 0 0, .int .i64 0, .int .i64 0, .slice none 0 0] 27) := ⟨_, rfl⟩
  rw [← hw1] at al rb
  have C1 := Lib.hid (Fc.read_any A n c bs w1 (hS.below al) hm hB)
  have B1 := Lib.hid al
  have RB := Lib.hid rb
  have HR := Lib.hid hr
  have Hw1 := Lib.hid hw1
  have HI := Lib.hid hi
  have HL := Lib.hid hl
  have HX := Lib.hid hx
  have HH := Lib.hid (And.intro h0 (And.intro h1 hk))
  clear al rb hw1 hS hB hr h0 h1 hk hx hi hl
  go_enter Try.func15, Try.ntmps15
  go_upto_region 1 with fail
  rw [← Hw1.out]
  go_wp2_with fail
  refine C1.out.mono ?_
  rintro e w2 ⟨A2, n2, c2, rfl, hS2, hB2⟩
  rw [HR.out] at hS2
  have hn2 : n2 = xs.length + 1 := by rw [hS2.len]; simp
  have k1 : ((n2 : Int) == 0) = false := by simp; omega
  have k2 : (0 : Int) < (n2 : Int) := by omega
  have k3 : 0 < n2 := by omega
  have k4 : (1 : Int) ≤ (n2 : Int) := by omega
  have k5 : 1 ≤ n2 := by omega
  have Hn2 := Lib.hid hn2
  obtain ⟨pb, po, A3, n3, c3, hA, hpl, hpc, hps⟩ := ss_first hS2
  have Cc := Lib.hid (countIn_yes A3 n3 c3 no k w2 hps HH.out.1 HH.out.2.1 HH.out.2.2)
  have B2 := Lib.hid (B1.out.trans (hB2.mono B1.out.size))
  have RB2 := Lib.hid (RB.out.below RB.out.lt hB2)
  subst hA
  have hcap2 := hS2.cap
  have hmx2 := hS2.max
  unfold maxLen at hmx2
  have HS2 := Lib.hid hS2
  clear hS2 hB2 hps hn2
  go_wp2_with fail
  refine Cc.out.mono ?_
  rintro e w3 ⟨rfl, hB3⟩
  have B3 := Lib.hid (B2.out.trans (hB3.mono B2.out.size))
  have RB3 := Lib.hid (RB2.out.below RB2.out.lt hB3)
  have hT := ss_tail (HS2.out.below hB3)
  have al4 := (Below.refl w3.heap.size w3).alloc (Nat.le_refl _) (.cells #[.int .i64 0, .int .i64 0, .slice none 0 0, .int .i64 0, .int .i64 0, .slice none 0 0, .int .i64 0, .int .i64 0, .slice none 0 0, .int .i64 0, .int .i64 0, .slice none 0 0] 53)
  have ab := Bx.new w3 53 #[.int .i64 0, .int .i64 0, .slice none 0 0, .int .i64 0, .int .i64 0, .slice none 0 0, .int .i64 0, .int .i64 0, .slice none 0 0, .int .i64 0, .int .i64 0, .slice none 0 0]
  obtain ⟨w4, hw4⟩ : ∃ w4, w4 = w3.alloc (.cells #[.int .i64 0, .int .i64 0, .slice none 0 0, .int .i64 0, .int .i64 0, .slice none 0 0, .int .i64 0, .int .i64 0, .slice none 0 0, .int .i64 0, .int .i64 0, .slice none 0 0] 53) := ⟨_, rfl⟩
  rw [← hw4] at al4 ab
  have CR : Hid (∀ A' n' c', Ss w3 A' n' c' (xs.map put) → Calls Try.prog 28 #[.pointer (some ⟨w3.heap.size, 0, none⟩), .slice A' n' c'] w4 fun e w' => e = .returned (.int .i64 (xs.length : Int)) ∧ Below w3.heap.size w4 w' ∧ ∃ r0 r1 r2 r3, Pm w' w3.heap.size w3.heap.size r0 r1 r2 r3 i) := Lib.hid fun A' n' c' h => by
    have hl := h.len
    rw [List.length_map] at hl
    rw [← hl]
    exact replay_any w3.heap.size A' n' c' xs i w3 w4 h al4 (pm_nil ab) (Nat.le_refl _) HX.out HI.out (by rw [hl]; exact HL.out)
  have AL4 := Lib.hid al4
  have Hw4 := Lib.hid hw4
  clear al4 ab hw4 hB3 hpc
  go_upto_region 8 with fail
  rw [← Hw4.out]
  by_cases hc1 : c2 = 1
  · subst hc1
    rw [if_pos rfl] at hT
    rw [show n2 - 1 = 0 by omega, Nat.sub_self] at hT
    have HT := Lib.hid hT
    clear hT
    go_wp2_with fail
    refine (CR.out _ _ _ HT.out).mono ?_
    rintro e w5 ⟨rfl, hB5, r0, r1, r2, r3, hP5⟩
    have B5 := Lib.hid (B3.out.trans ((AL4.out.mono (Nat.le_refl _)).trans hB5 |>.mono B3.out.size))
    have RB5 := Lib.hid (RB3.out.below RB3.out.lt (AL4.out.trans hB5))
    have P5 := Lib.hid hP5
    clear hB5 hP5
    by_cases hlt : xs.length < k
    · have hltI : (xs.length : Int) < (k : Int) := by omega
      obtain ⟨⟨d0, d1, d2, d3, d4, d5, d6, d7, d8, d9, d10, d11⟩, ⟨f0, f1, f2, f3, f4, f5, f6, f7, f8, f9, f10, f11⟩⟩ := twelve RB5.out
      go_wp2_with fail
      refine bodyPost_ret (v := .tuple #[.agg #[.int .i64 0, .int .i64 0, .slice none 0 0, .int .i64 0, .int .i64 0, .slice none 0 0, .int .i64 0, .int .i64 0, .slice none 0 0, .int .i64 0, .int .i64 0, .slice none 0 0], .bool false]) ?_ rfl ⟨fun _ => ⟨rfl, below12 B5.out (Nat.le_refl _) _ _ _ _ _ _ _ _ _ _ _ _⟩, fun h => absurd hlt (by omega)⟩
      rw [res_cell2 rfl]; go_simp
    · have hltI : ¬ (xs.length : Int) < (k : Int) := by omega
      have hjv := P5.out.jv
      have ln := jv_len (m := 500000) hjv (fun q hq => by
        have := made_len _ _ _ 0 (fun q hq => by simp [Jo.nil_, default] at hq; rw [hq]; simp) HI.out q hq
        have := HL.out
        omega)
      have C7 := Lib.hid (journal_any w3.heap.size r0 r1 r2 r3 w5 P5.out.box (by rw [← P5.out.e]; exact hjv) ln.1 ln.2.1 ln.2.2.1 ln.2.2.2)
      clear hjv ln
      go_wp2_with fail
      refine C7.out.mono ?_
      rintro e w7 ⟨q0, q1, q2, q3, rfl, ⟨hJ7, -⟩, hB7⟩
      rw [← P5.out.e] at hJ7
      have RB7 := Lib.hid (RB5.out.below RB5.out.lt hB7)
      have B7 := Lib.hid (B5.out.trans (hB7.mono B5.out.size))
      have J7 := Lib.hid hJ7
      clear hJ7 hB7
      obtain ⟨⟨d0, d1, d2, d3, d4, d5, d6, d7, d8, d9, d10, d11⟩, ⟨f0, f1, f2, f3, f4, f5, f6, f7, f8, f9, f10, f11⟩⟩ := twelve RB7.out
      go_wp2_with fail
      refine bodyPost_ret (v := .tuple #[.agg #[.int .i64 q0.g, .int .i64 q0.b, .slice q0.A q0.n q0.c, .int .i64 q1.g, .int .i64 q1.b, .slice q1.A q1.n q1.c, .int .i64 q2.g, .int .i64 q2.b, .slice q2.A q2.n q2.c, .int .i64 q3.g, .int .i64 q3.b, .slice q3.A q3.n q3.c], .bool true]) ?_ rfl ⟨fun h => absurd h hlt, fun _ => ⟨q0, q1, q2, q3, rfl, jv_set (r0 := default) (r1 := default) (r2 := default) (r3 := default) J7.out RB7.out, below12 B7.out (Nat.le_refl _) _ _ _ _ _ _ _ _ _ _ _ _⟩⟩
      rw [res_cell2 rfl]; go_simp
  · rw [if_neg hc1] at hT
    have HT := Lib.hid hT
    clear hT
    go_wp2_with fail
    refine (CR.out _ _ _ HT.out).mono ?_
    rintro e w5 ⟨rfl, hB5, r0, r1, r2, r3, hP5⟩
    have B5 := Lib.hid (B3.out.trans ((AL4.out.mono (Nat.le_refl _)).trans hB5 |>.mono B3.out.size))
    have RB5 := Lib.hid (RB3.out.below RB3.out.lt (AL4.out.trans hB5))
    have P5 := Lib.hid hP5
    clear hB5 hP5
    by_cases hlt : xs.length < k
    · have hltI : (xs.length : Int) < (k : Int) := by omega
      obtain ⟨⟨d0, d1, d2, d3, d4, d5, d6, d7, d8, d9, d10, d11⟩, ⟨f0, f1, f2, f3, f4, f5, f6, f7, f8, f9, f10, f11⟩⟩ := twelve RB5.out
      go_wp2_with fail
      refine bodyPost_ret (v := .tuple #[.agg #[.int .i64 0, .int .i64 0, .slice none 0 0, .int .i64 0, .int .i64 0, .slice none 0 0, .int .i64 0, .int .i64 0, .slice none 0 0, .int .i64 0, .int .i64 0, .slice none 0 0], .bool false]) ?_ rfl ⟨fun _ => ⟨rfl, below12 B5.out (Nat.le_refl _) _ _ _ _ _ _ _ _ _ _ _ _⟩, fun h => absurd hlt (by omega)⟩
      rw [res_cell2 rfl]; go_simp
    · have hltI : ¬ (xs.length : Int) < (k : Int) := by omega
      have hjv := P5.out.jv
      have ln := jv_len (m := 500000) hjv (fun q hq => by
        have := made_len _ _ _ 0 (fun q hq => by simp [Jo.nil_, default] at hq; rw [hq]; simp) HI.out q hq
        have := HL.out
        omega)
      have C7 := Lib.hid (journal_any w3.heap.size r0 r1 r2 r3 w5 P5.out.box (by rw [← P5.out.e]; exact hjv) ln.1 ln.2.1 ln.2.2.1 ln.2.2.2)
      clear hjv ln
      go_wp2_with fail
      refine C7.out.mono ?_
      rintro e w7 ⟨q0, q1, q2, q3, rfl, ⟨hJ7, -⟩, hB7⟩
      rw [← P5.out.e] at hJ7
      have RB7 := Lib.hid (RB5.out.below RB5.out.lt hB7)
      have B7 := Lib.hid (B5.out.trans (hB7.mono B5.out.size))
      have J7 := Lib.hid hJ7
      clear hJ7 hB7
      obtain ⟨⟨d0, d1, d2, d3, d4, d5, d6, d7, d8, d9, d10, d11⟩, ⟨f0, f1, f2, f3, f4, f5, f6, f7, f8, f9, f10, f11⟩⟩ := twelve RB7.out
      go_wp2_with fail
      refine bodyPost_ret (v := .tuple #[.agg #[.int .i64 q0.g, .int .i64 q0.b, .slice q0.A q0.n q0.c, .int .i64 q1.g, .int .i64 q1.b, .slice q1.A q1.n q1.c, .int .i64 q2.g, .int .i64 q2.b, .slice q2.A q2.n q2.c, .int .i64 q3.g, .int .i64 q3.b, .slice q3.A q3.n q3.c], .bool true]) ?_ rfl ⟨fun h => absurd h hlt, fun _ => ⟨q0, q1, q2, q3, rfl, jv_set (r0 := default) (r1 := default) (r2 := default) (r3 := default) J7.out RB7.out, below12 B7.out (Nat.le_refl _) _ _ _ _ _ _ _ _ _ _ _ _⟩⟩
      rw [res_cell2 rfl]; go_simp
end Jr
end Go.Proofs.Ytljgalleiemaaaa
