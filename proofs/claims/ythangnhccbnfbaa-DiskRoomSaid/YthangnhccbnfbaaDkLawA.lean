/- The walk of the statement DiskRoom of layer 5. -/
import Derived.Test.YthangnhccbnfbaaDkAwake
import Derived.Test.YthangnhccbnfbaaDkFacts
namespace Go.Proofs.Ythangnhccbnfbaa
open Go.RowKit Go.Maps
namespace Lw
open Dk
set_option maxRecDepth 100000 in
set_option maxHeartbeats 8000000 in
theorem diskRoom_in (room : Int) (A : Option Addr) (n c : Nat) (os : List Wd.Opr) (w : World) (hO : Wd.Os w A n c os) (r0 : 0 ≤ room) (r1 : room ≤ 100000) :
    Calls Try.prog 6 #[.int .i64 room, .slice A n c] w fun e w' => e = .returned (.bool true) ∧ Below w.heap.size w w' := by
  have hl := hO.len
  have hcp := hO.cap
  have hmx := hO.max
  unfold maxLen at hmx
  have g1 : decide (room < 0) = false := decide_eq_false (by omega)
  have g2 : decide (100000 < room) = false := decide_eq_false (by omega)
  have hl' := Lib.hid hl
  clear hl
  go_enter Try.func6, Try.ntmps6
  go_wp2_with fail
  refine (awake_any w).mono ?_
  rintro e w1 ⟨rfl, hB1⟩
  have hO1 := hO.below hB1
  clear hO
  go_wp2_with fail
  refine (few_any A n c os 60 w1 hO1 (by omega)).mono ?_
  rintro e w2 ⟨q, rfl⟩
  rcases q with ⟨rfl, hFw⟩ | rfl
  · have hn60 : n ≤ 60 := by rw [hl'.out]; exact hFw.1
    have hFw' := Lib.hid hFw
    clear hFw
    go_wp2_with fail
    refine (new_ok room w2 r0 (by omega)).mono ?_
    rintro e w3 ⟨d, rfl, hB3, hD3⟩
    have hA3 : At w2 w3 d ⟨[], room, -1, false⟩ := At.new hB3 hD3
    clear hB3 hD3
    go_wp2_with fail
    go_loopw [8] (fun iv wr => ∃ (k : Nat) (S : Pd), iv = .int .i64 (k : Int) ∧ k ≤ n ∧ At w2 wr d S ∧ S.cap = room ∧ (used S.fs : Int) ≤ room) (fun iv _ => n - (intOf iv).toNat)
    case atStart => exact ⟨0, _, rfl, Nat.zero_le _, hA3, rfl, by simpa [used] using r0⟩
    case round =>
      obtain ⟨k, S, rfl, hk, hAt, hcap, hus⟩ := hrel
      obtain ⟨wo, rfl⟩ : ∃ wo : World, wo = wr := ⟨_, rfl⟩
      have hcap' := Lib.hid hcap
      clear hcap hA3
      by_cases hlt : k < n
      · have hko : k < os.length := by rw [← hl'.out]; exact hlt
        obtain ⟨o, ho⟩ : ∃ o, o = os.getD k default := ⟨_, rfl⟩
        have hsm : Sm o := hFw'.out.2 o (by rw [ho]; simp [List.getD, hko])
        have i1 : (k : Int) < (n : Int) := by omega
        obtain ⟨b, f, rfl, hb, d0, d1, d2, d3, d4, h1⟩ := (hO1.below (hAt.base.mono (Nat.le_refl _))).cells hko ho
        obtain ⟨b', f', hbf, hb', -, -, -, -, -, h1'⟩ := hO1.cells hko ho
        obtain ⟨rfl, rfl⟩ : b = b' ∧ f = f' := by simpa using hbf
        have ho' := Lib.hid ho
        clear ho hko hbf h1
        by_cases k4 : o.kind = 4
        · have q4 : (o.kind == 4) = true := by simpa using k4
          clear k4
          go_wp2_with fail
          go_roundw
          case rel => exact ⟨k + 1, S, by simp, hlt, hAt, hcap'.out, hus⟩
          case measure => simp [intOf]; omega
        · have q4 : (o.kind == 4) = false := by simpa using k4
          have hst := room_step hAt.ok k4 (by rw [hcap'.out]; exact hus)
          have hst' := Lib.hid hst
          clear k4 hst
          go_wp2_with fail
          refine (at_used hAt).mono ?_
          rintro e w5 ⟨rfl, hb5⟩
          have hA5 := hAt.below hb5
          have e0 := (hb5.cell (p := ⟨b, f + k * 5, none⟩) hb).trans d0
          have e1 := (hb5.cell (p := ⟨b, f + k * 5 + 1, none⟩) hb).trans d1
          have e2 := (hb5.cell (p := ⟨b, f + k * 5 + 2, none⟩) hb).trans d2
          have e3 := (hb5.cell (p := ⟨b, f + k * 5 + 3, none⟩) hb).trans d3
          have e4 := (hb5.cell (p := ⟨b, f + k * 5 + 4, none⟩) hb).trans d4
          clear d0 d1 d2 d3 d4 hAt hb5
          go_wp2_with fail
          have hD := does_any hA5 o h1' hsm
          change Calls Try.prog 12 #[pt d, .agg #[.int .i64 o.kind, .int .i64 o.num, .string o.name, .slice o.bA o.bn o.bc, .slice o.kA o.kn o.kc]] w5 _ at hD
          refine hD.mono ?_
          clear hD
          rintro e w6 ⟨rfl, hA6⟩
          clear e0 e1 e2 e3 e4
          obtain ⟨b0, f0', hbf0, hb0, d0, -, -, d3, -, -⟩ := (hO1.below hA6.base).cells (by rw [← hl'.out]; exact hlt) ho'.out
          obtain ⟨rfl, rfl⟩ : b = b0 ∧ f = f0' := by simpa using hbf0
          clear hbf0
          obtain ⟨hs1, hs2, hs3, hs4, hs5, hs6⟩ := hst'.out
          generalize doesS S o = R at hA6 hs1 hs2 hs3 hs4 hs5 hs6
          obtain ⟨r, S'⟩ := R
          simp only [] at hA6 hs1 hs2 hs3 hs4 hs5 hs6
          go_wp2_with fail
          refine (at_used hA6).mono ?_
          rintro e w7 ⟨rfl, hb7⟩
          have hA7 := hA6.below hb7
          have e0 := (hb7.cell (p := ⟨b, f + k * 5, none⟩) hb0).trans d0
          have e3 := (hb7.cell (p := ⟨b, f + k * 5 + 3, none⟩) hb0).trans d3
          clear d0 d3 hA6 hb7 hA5
          have hbl := h1'.b.len
          have hbs := hsm.1
          have hcr := hcap'.out
          obtain ⟨u, hu⟩ : ∃ u : Int, u = (used S.fs : Int) := ⟨_, rfl⟩
          obtain ⟨u', hu'⟩ : ∃ u' : Int, u' = (used S'.fs : Int) := ⟨_, rfl⟩
          rw [hcr] at hs1 hs2
          rw [← hu', ← hu]
          have g0 : decide (room < u') = false := decide_eq_false (by omega)
          have gA : (r != 0) = true ∧ (r == 0) = false ∧ (u' != u) = false ∨ (r != 0) = false ∧ (r == 0) = true := by
            by_cases q : r = 0
            · exact .inr ⟨by simp [q], by simp [q]⟩
            · have := hs3 q
              exact .inl ⟨by simpa using q, by simpa using q, by simp; omega⟩
          have iw : IntKind.i64.wrap (u + (o.bn : Int)) = u + (o.bn : Int) := IntWalk.i64_in _ (by omega)
          have gB : (o.kind == 0) = true ∧ (o.kind == 1) = false ∧ (o.kind == 3) = false ∧ (u' != u) = false ∨ (o.kind == 0) = false ∧ (o.kind == 1) = true ∧ (o.kind == 3) = false ∧ ((r == 0) = true → (u' != u + (o.bn : Int)) = false) ∨ (o.kind == 0) = false ∧ (o.kind == 1) = false ∧ (o.kind == 3) = true ∧ decide (u < u') = false ∨ (o.kind == 0) = false ∧ (o.kind == 1) = false ∧ (o.kind == 3) = false := by
            by_cases q0 : o.kind = 0
            · have := hs4 q0
              exact .inl ⟨by simpa using q0, by simp [q0], by simp [q0], by simp; omega⟩
            by_cases q1 : o.kind = 1
            · refine .inr (.inl ⟨by simp [q1], by simpa using q1, by simp [q1], fun q => ?_⟩)
              have := hs5 q1 (by simpa using q)
              simp
              omega
            by_cases q3 : o.kind = 3
            · have := hs6 q3
              exact .inr (.inr (.inl ⟨by simp [q3], by simp [q3], by simpa using q3, decide_eq_false (by omega)⟩))
            · exact .inr (.inr (.inr ⟨by simpa using q0, by simpa using q1, by simpa using q3⟩))
          have hu0 : 0 ≤ u := by omega
          have hu1 : u ≤ 100000 := by omega
          have hbn : o.bn ≤ 300 := by omega
          have Hs1 := Lib.hid hs1
          have Hs2 := Lib.hid hs2
          have Hu' := Lib.hid hu'
          clear hs1 hs2 hs3 hs4 hs5 hs6 hu hu' hbl hbs hcr q4 hus
          rcases gA with ⟨ga, ga', gu⟩ | ⟨ga, ga'⟩
          all_goals rcases gB with ⟨g3, g4, g5, g6⟩ | ⟨g3, g4, g5, g6⟩ | ⟨g3, g4, g5, g6⟩ | ⟨g3, g4, g5⟩
          all_goals first | (have g6 := g6 ga') | skip
          all_goals
            go_wp2_with fail
            go_roundw
            case rel => exact ⟨k + 1, S', by simp, hlt, hA7, Hs1.out, Hs2.out⟩
            case measure => simp [intOf]; omega
      · go_wp2_with fail
        go_ret
        exact ⟨rfl, hB1.trans (hAt.base.mono hB1.size)⟩
  · go_wp2_with fail
    go_ret
    exact ⟨rfl, hB1⟩
set_option maxRecDepth 100000 in
set_option maxHeartbeats 4000000 in
theorem diskRoom_out (room : Int) (A : Option Addr) (n c : Nat) (os : List Wd.Opr) (w : World) (hO : Wd.Os w A n c os) (r : room < 0 ∨ 100000 < room) :
    Calls Try.prog 6 #[.int .i64 room, .slice A n c] w fun e w' => e = .returned (.bool true) ∧ Below w.heap.size w w' := by
  have g : decide (room < 0) = true ∨ decide (room < 0) = false ∧ decide (100000 < room) = true := by
    by_cases q : room < 0
    · exact .inl (decide_eq_true q)
    · exact .inr ⟨decide_eq_false q, decide_eq_true (by omega)⟩
  clear r
  go_enter Try.func6, Try.ntmps6
  go_wp2_with fail
  refine (awake_any w).mono ?_
  rintro e w1 ⟨rfl, hB1⟩
  have hO1 := hO.below hB1
  clear hO
  go_wp2_with fail
  refine (few_any A n c os 60 w1 hO1 (by omega)).mono ?_
  rintro e w2 ⟨q, rfl⟩
  rcases q with ⟨rfl, -⟩ | rfl <;> rcases g with g1 | ⟨g1, g2⟩
  all_goals
    go_wp2_with fail
    go_ret
    exact ⟨rfl, hB1⟩
theorem diskRoom_ok (room : Int) (A : Option Addr) (n c : Nat) (os : List Wd.Opr) (w : World) (_ : -9223372036854775808 ≤ room) (_ : room ≤ 9223372036854775807) (hO : Wd.Os w A n c os) :
    Calls Try.prog 6 #[.int .i64 room, .slice A n c] w fun e w' => e = .returned (.bool true) ∧ Below w.heap.size w w' := by
  by_cases h : 0 ≤ room ∧ room ≤ 100000
  · exact diskRoom_in room A n c os w hO h.1 h.2
  · exact diskRoom_out room A n c os w hO (by omega)
end Lw
end Go.Proofs.Ythangnhccbnfbaa
