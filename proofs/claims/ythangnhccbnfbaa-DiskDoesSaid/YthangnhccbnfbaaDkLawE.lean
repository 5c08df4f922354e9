/- The walk of the statement DiskDoes of layer 5. -/
import Derived.Test.YthangnhccbnfbaaDkRefJ
import Derived.Test.YthangnhccbnfbaaDkAwake
namespace Go.Proofs.Ythangnhccbnfbaa
open Go.RowKit Go.Maps
namespace Dk
open Wd (Opr Op1)
/-- In w, which has come of wo, lie the disk S at d and the reference's disk T at r, apart, in memory that is new since wo. -/
def Pr (wo w : World) (d r : Nat) (S T : Pd) : Prop :=
  ∃ G H, Dsk w d G S ∧ Rsk w r H T ∧ (∀ g, G g → wo.heap.size ≤ g) ∧ (∀ g, H g → wo.heap.size ≤ g) ∧ (∀ g, G g → ¬ H g) ∧ Below wo.heap.size wo w
section
variable {wo w w' : World} {d r : Nat} {S T : Pd}
theorem Pr.base (h : Pr wo w d r S T) : Below wo.heap.size wo w := by
  obtain ⟨G, H, h1, h2, h3, h4, h5, h6⟩ := h
  exact h6
theorem Pr.below (h : Pr wo w d r S T) (hb : Below w.heap.size w w') : Pr wo w' d r S T := by
  obtain ⟨G, H, h1, h2, h3, h4, h5, h6⟩ := h
  exact ⟨G, H, h1.below hb, h2.below hb, h3, h4, h5, h6.trans (hb.mono h6.size)⟩
theorem Pr.new {w1 w2 w3 : World} {d r : Nat} (h1 : Below w1.heap.size w1 w2) (hD : Dsk w2 d (fun g => w1.heap.size ≤ g ∧ g < w2.heap.size) S) (h2 : Below w2.heap.size w2 w3) (hR : Rsk w3 r (fun g => w2.heap.size ≤ g ∧ g < w3.heap.size) T) : Pr w1 w3 d r S T :=
  ⟨_, _, hD.below h2, hR, fun _ hg => hg.1, fun _ hg => Nat.le_trans h1.size hg.1, fun g hg hh => by omega, h1.trans (h2.mono h1.size)⟩
theorem pr_does (h : Pr wo w d r S T) (o : Opr) (ho : Op1 wo o) (hs : Sm o) :
    Calls Try.prog 12 #[pt d, .agg o.vals.toArray] w fun e w' => e = .returned (.int .i64 (doesS S o).1) ∧ Pr wo w' d r (doesS S o).2 T := by
  obtain ⟨G, H, h1, h2, h3, h4, h5, h6⟩ := h
  refine (does_mv h1 o (fun W hW => ho.below (h6.trans (hW.below h3 h6.size))) hs).mono fun e w' ⟨he, mv, hD⟩ => ⟨he, Wd.Gr G w w', H, hD, h2.other mv (fun g a b => h5 g b a), Wd.Gr.ge h3 h6.size, h4, fun g a b => ?_, h6.trans (mv.below h3 h6.size)⟩
  have := h2.bd g b
  rcases a with q | q
  · exact h5 g q b
  · omega
theorem pr_did (h : Pr wo w d r S T) (o : Opr) (ho : Op1 wo o) (hs : Sm o) :
    Calls Try.prog 13 #[pt r, .agg o.vals.toArray] w fun e w' => e = .returned (.int .i64 (doesS T o).1) ∧ Pr wo w' d r S (doesS T o).2 := by
  obtain ⟨G, H, h1, h2, h3, h4, h5, h6⟩ := h
  refine (did_mv h2 o (fun W hW => ho.below (h6.trans (hW.below h4 h6.size))) hs).mono fun e w' ⟨he, mv, hR⟩ => ⟨he, G, Wd.Gr H w w', h1.other mv h5, hR, h3, Wd.Gr.ge h4 h6.size, fun g a b => ?_, h6.trans (mv.below h4 h6.size)⟩
  have := h1.bd g a
  rcases b with q | q
  · exact h5 g a q
  · omega
theorem pr_same (h : Pr wo w d r S S) :
    Calls Try.prog 14 #[pt d, pt r] w fun e w' => e = .returned (.bool true) ∧ Pr wo w' d r S S := by
  obtain ⟨G, H, h1, h2, h⟩ := h
  exact (same_disk h1 h2).mono fun e w' ⟨he, hb⟩ => ⟨he, Pr.below ⟨G, H, h1, h2, h⟩ hb⟩
theorem pr_read (h : Pr wo w d r S T) (s : ByteArray) (hs : s.size ≤ 100) :
    Calls Try.prog 15 #[pt d, .string s] w fun e w' => ∃ A n c, e = .returned (.tuple #[.slice A n c, .int .i64 (Dk.read S s).2]) ∧ Wd.Sl w' .u8 A n c (Dk.read S s).1 ∧ Pr wo w' d r S T := by
  obtain ⟨G, H, h1, h2, h⟩ := h
  refine (read_any h1 s hs).mono fun e w' ⟨v, he, ho, hb⟩ => ?_
  obtain ⟨A, n, c, rfl, hS⟩ := Wd.Sl.of_own ho
  exact ⟨A, n, c, he, hS, Pr.below ⟨G, H, h1, h2, h⟩ hb⟩
theorem pr_rread (h : Pr wo w d r S T) (s : ByteArray) :
    Calls Try.prog 16 #[pt r, .string s] w fun e w' => ∃ A n c, e = .returned (.tuple #[.slice A n c, .int .i64 (Dk.read T s).2]) ∧ Wd.Sl w .u8 A n c (Dk.read T s).1 ∧ w' = w := by
  obtain ⟨G, H, h1, h2, h⟩ := h
  exact rread_any h2 s
end
end Dk
namespace Lw
open Dk
set_option maxRecDepth 100000 in
set_option maxHeartbeats 8000000 in
theorem diskDoes_in (room : Int) (A : Option Addr) (n c : Nat) (os : List Wd.Opr) (s : ByteArray) (w : World) (hO : Wd.Os w A n c os) (hs : s.size ≤ 100) (r0 : 0 ≤ room) (r1 : room ≤ 16777216) :
    Calls Try.prog 3 #[.int .i64 room, .slice A n c, .string s] w fun e w' => e = .returned (.bool true) ∧ Below w.heap.size w w' := by
  have hl := hO.len
  have hcp := hO.cap
  have hmx := hO.max
  unfold maxLen at hmx
  have g3 : decide ((100 : Int) < (s.size : Int)) = false := decide_eq_false (by omega)
  have g4 : (s.size : Int) ≤ 100 := by omega
  have hl' := Lib.hid hl
  clear hl
  go_enter Try.func3, Try.ntmps3
  go_wp2_with fail
  refine (awake_any w).mono ?_
  rintro e w1 ⟨rfl, hB1⟩
  have hO1 := hO.below hB1
  clear hO
  go_wp2_with fail
  refine (few_any A n c os 80 w1 hO1 (by omega)).mono ?_
  rintro e w2 ⟨q, rfl⟩
  rcases q with ⟨rfl, hFw⟩ | rfl
  · have hn80 : n ≤ 80 := by rw [hl'.out]; exact hFw.1
    have hFw' := Lib.hid hFw
    clear hFw
    go_wp2_with fail
    refine (new_ok room w2 r0 r1).mono ?_
    rintro e w3 ⟨d, rfl, hB3, hD3⟩
    go_wp2_with fail
    refine (rnew_ok room w3 r0 r1).mono ?_
    rintro e w4 ⟨r, rfl, hB4, hR4⟩
    have hP : Pr w2 w4 d r ⟨[], room, -1, false⟩ ⟨[], room, -1, false⟩ := Pr.new hB3 hD3 hB4 hR4
    clear hB3 hD3 hB4 hR4
    go_wp2_with fail
    go_loopw [12] (fun iv wr => ∃ (j : Nat) (S : Pd), iv = .int .i64 (j : Int) ∧ j ≤ n ∧ Pr w2 wr d r S S) (fun iv _ => n - (intOf iv).toNat)
    case atStart => exact ⟨0, _, rfl, Nat.zero_le _, hP⟩
    case round =>
      obtain ⟨j, S, rfl, hj, hP⟩ := hrel
      obtain ⟨wo, rfl⟩ : ∃ wo : World, wo = wr := ⟨_, rfl⟩
      by_cases hlt : j < n
      · have hko : j < os.length := by rw [← hl'.out]; exact hlt
        obtain ⟨o, ho⟩ : ∃ o, o = os.getD j default := ⟨_, rfl⟩
        have hsm : Sm o := hFw'.out.2 o (by rw [ho]; simp [List.getD, hko])
        have i1 : (j : Int) < (n : Int) := by omega
        obtain ⟨bb, f, rfl, hb, d0, d1, d2, d3, d4, -⟩ := (hO1.below hP.base).cells hko ho
        obtain ⟨b', f', hbf, hb', -, -, -, -, -, h1'⟩ := hO1.cells hko ho
        obtain ⟨rfl, rfl⟩ : bb = b' ∧ f = f' := by simpa using hbf
        have ho' := Lib.hid ho
        clear hbf ho hko
        have hD := pr_does hP o h1' hsm
        change Calls Try.prog 12 #[pt d, .agg #[.int .i64 o.kind, .int .i64 o.num, .string o.name, .slice o.bA o.bn o.bc, .slice o.kA o.kn o.kc]] wo _ at hD
        obtain ⟨R, hR⟩ : ∃ R, R = doesS S o := ⟨_, rfl⟩
        rw [← hR] at hD
        have hR' := Lib.hid hR
        clear hR
        obtain ⟨x, S'⟩ := R
        go_wp2_with fail
        refine hD.mono ?_
        rintro e w5 ⟨rfl, hP5⟩
        clear hD d0 d1 d2 d3 d4 hP
        obtain ⟨b0, f0, hbf0, hb0, d0, d1, d2, d3, d4, -⟩ := (hO1.below hP5.base).cells (by rw [← hl'.out]; exact hlt) ho'.out
        obtain ⟨rfl, rfl⟩ : bb = b0 ∧ f = f0 := by simpa using hbf0
        clear hbf0
        have hD := pr_did hP5 o h1' hsm
        change Calls Try.prog 13 #[pt r, .agg #[.int .i64 o.kind, .int .i64 o.num, .string o.name, .slice o.bA o.bn o.bc, .slice o.kA o.kn o.kc]] w5 _ at hD
        rw [← hR'.out] at hD
        go_wp2_with fail
        refine hD.mono ?_
        rintro e w6 ⟨rfl, hP6⟩
        clear hD d0 d1 d2 d3 d4 hP5
        go_wp2_with fail
        refine (pr_same hP6).mono ?_
        rintro e w7 ⟨rfl, hP7⟩
        clear hP6
        go_wp2_with fail
        refine (pr_read hP7 s hs).mono ?_
        rintro e w8 ⟨A8, n8, c8, rfl, hS8, hP8⟩
        clear hP7
        go_wp2_with fail
        refine (pr_rread hP8 s).mono ?_
        rintro e w9 ⟨A9, n9, c9, rfl, hS9, rfl⟩
        go_wp2_with fail
        refine (Nc.same_yes _ _ _ _ _ _ _ _ _ hS8 hS9 rfl).mono ?_
        rintro e w10 ⟨rfl, hb10⟩
        have hP10 := hP8.below hb10
        obtain ⟨y, hy⟩ : ∃ y, y = (Dk.read S' s).2 := ⟨_, rfl⟩
        rw [← hy]
        clear hP8 hS8 hS9 hb10 hy
        go_wp2_with fail
        go_roundw
        case rel => exact ⟨j + 1, S', by simp, hlt, hP10⟩
        case measure => simp [intOf]; omega
      · go_wp2_with fail
        go_ret
        exact ⟨rfl, hB1.trans (hP.base.mono hB1.size)⟩
  · go_wp2_with fail
    go_ret
    exact ⟨rfl, hB1⟩
set_option maxRecDepth 100000 in
set_option maxHeartbeats 8000000 in
theorem diskDoes_none (room : Int) (A : Option Addr) (n c : Nat) (os : List Wd.Opr) (s : ByteArray) (w : World) (hO : Wd.Os w A n c os) (hs : s.size ≤ 100) (hr : room < 0 ∨ 16777216 < room) :
    Calls Try.prog 3 #[.int .i64 room, .slice A n c, .string s] w fun e w' => e = .returned (.bool true) ∧ Below w.heap.size w w' := by
  have hl := hO.len
  have hcp := hO.cap
  have hmx := hO.max
  unfold maxLen at hmx
  have g3 : decide ((100 : Int) < (s.size : Int)) = false := decide_eq_false (by omega)
  have g4 : (s.size : Int) ≤ 100 := by omega
  have N1 := fun W => new_no room W hr
  have N2 := fun W => rnew_no room W hr
  clear hl hr
  go_enter Try.func3, Try.ntmps3
  go_wp2_with fail
  refine (awake_any w).mono ?_
  rintro e w1 ⟨rfl, hB1⟩
  have hO1 := hO.below hB1
  clear hO
  go_wp2_with fail
  refine (few_any A n c os 80 w1 hO1 (by omega)).mono ?_
  rintro e w2 ⟨q, rfl⟩
  rcases q with ⟨rfl, -⟩ | rfl
  · go_wp2_with fail
    refine (N1 _).mono ?_
    rintro e w3 ⟨rfl, rfl⟩
    go_wp2_with fail
    refine (N2 _).mono ?_
    rintro e w4 ⟨rfl, rfl⟩
    by_cases hn0 : n = 0
    · subst hn0
      go_wp2_with fail
      go_loopw [12] (fun iv wr => iv = .int .i64 0 ∧ wr = w4) (fun _ _ => 0)
      case atStart => exact ⟨rfl, rfl⟩
      case round =>
        obtain ⟨rfl, rfl⟩ := hrel
        go_wp2_with fail
        go_ret
        exact ⟨rfl, hB1⟩
    · have i1 : 1 ≤ (n : Int) := by omega
      clear hn0
      go_wp2_with fail
      go_loopw [12] (fun iv wr => iv = .int .i64 0 ∧ wr = w4) (fun _ _ => 0)
      case atStart => exact ⟨rfl, rfl⟩
      case round =>
        obtain ⟨rfl, rfl⟩ := hrel
        go_wp2_with fail
        go_ret
        exact ⟨rfl, hB1⟩
  · go_wp2_with fail
    go_ret
    exact ⟨rfl, hB1⟩
set_option maxRecDepth 100000 in
set_option maxHeartbeats 4000000 in
theorem diskDoes_out (room : Int) (A : Option Addr) (n c : Nat) (os : List Wd.Opr) (s : ByteArray) (w : World) (hO : Wd.Os w A n c os) (hs : 100 < s.size) (hs9 : s.size ≤ 9223372036854775807) :
    Calls Try.prog 3 #[.int .i64 room, .slice A n c, .string s] w fun e w' => e = .returned (.bool true) ∧ Below w.heap.size w w' := by
  have g3 : decide ((100 : Int) < (s.size : Int)) = true := decide_eq_true (by omega)
  clear hs
  go_enter Try.func3, Try.ntmps3
  go_wp2_with fail
  refine (awake_any w).mono ?_
  rintro e w1 ⟨rfl, hB1⟩
  have hO1 := hO.below hB1
  clear hO
  go_wp2_with fail
  refine (few_any A n c os 80 w1 hO1 (by omega)).mono ?_
  rintro e w2 ⟨q, rfl⟩
  rcases q with ⟨rfl, -⟩ | rfl
  all_goals
    go_wp2_with fail
    go_ret
    exact ⟨rfl, hB1⟩
theorem diskDoes_ok (room : Int) (A : Option Addr) (n c : Nat) (os : List Wd.Opr) (s : ByteArray) (w : World) (_ : -9223372036854775808 ≤ room) (_ : room ≤ 9223372036854775807) (hO : Wd.Os w A n c os) (hs : s.size ≤ maxLen) :
    Calls Try.prog 3 #[.int .i64 room, .slice A n c, .string s] w fun e w' => e = .returned (.bool true) ∧ Below w.heap.size w w' := by
  by_cases h : s.size ≤ 100
  · by_cases hr : 0 ≤ room ∧ room ≤ 16777216
    · exact diskDoes_in room A n c os s w hO h hr.1 hr.2
    · exact diskDoes_none room A n c os s w hO h (by omega)
  · unfold maxLen at hs
    exact diskDoes_out room A n c os s w hO (by omega) hs
end Lw
end Go.Proofs.Ythangnhccbnfbaa
