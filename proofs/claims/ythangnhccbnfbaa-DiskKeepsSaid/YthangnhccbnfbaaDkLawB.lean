/- The walk of the statement DiskKeeps of layer 5. -/
import Derived.Test.YthangnhccbnfbaaDkAwake
import Derived.Test.YthangnhccbnfbaaDkFacts
namespace Go.Proofs.Ythangnhccbnfbaa
open Go.RowKit Go.Maps
namespace Lw
open Dk
theorem nm_eq {s t : ByteArray} (h : s = t) : (s.toList == t.toList) = true := by simp [h]
theorem nm_ne {s t : ByteArray} (h : s ≠ t) : (s.toList == t.toList) = false := by
  rw [ByteArray.toList_eq, ByteArray.toList_eq, beq_eq_false_iff_ne]
  intro e
  exact h (WideShapes.bytes_inj e)
/-- The disk behind what stands ahead of the calls. -/
def keptD (s : ByteArray) (b : List Int) : Pd := ⟨[⟨s, b, b.length⟩], 100000, -1, false⟩
theorem made1 {s : ByteArray} (h1 : 1 ≤ s.size) (h2 : s.size ≤ 32) : create ⟨[], 100000, -1, false⟩ s = (0, ⟨[⟨s, [], 0⟩], 100000, -1, false⟩) := by
  unfold create erC
  rw [if_neg (by simp), if_neg (by simp; omega), if_neg (by simp [fnd]), if_neg (by simp)]
  rfl
theorem made2 {s : ByteArray} {b : List Int} (h : b.length ≤ 300) : append ⟨[⟨s, [], 0⟩], 100000, -1, false⟩ s b = (0, ⟨[⟨s, b, 0⟩], 100000, -1, false⟩) := by
  have e : erA ⟨[⟨s, [], 0⟩], 100000, -1, false⟩ s b = 0 := by
    unfold erA
    rw [if_neg (by simp), if_neg (by simp [fnd]), if_neg (by simp [used]; omega)]
  unfold append
  rw [e, gate_go (by simp)]
  simp [upd]
theorem made3 {s : ByteArray} {b : List Int} : sync ⟨[⟨s, b, 0⟩], 100000, -1, false⟩ s = (0, keptD s b) := by
  have e : erN ⟨[⟨s, b, 0⟩], 100000, -1, false⟩ s = 0 := by
    unfold erN
    rw [if_neg (by simp), if_neg (by simp [fnd])]
  unfold sync
  rw [e, gate_go (by simp)]
  simp [upd, keptD]
/-- A file of the name s, of the bytes b, all of which are synced. -/
def Kp (s : ByteArray) (b : List Int) (S : Pd) : Prop := fnd Pf.name s S.fs = some ⟨s, b, b.length⟩
theorem kp_start (s : ByteArray) (b : List Int) : Kp s b (keptD s b) := by simp [Kp, keptD, fnd]
theorem kp_end {s : ByteArray} {b : List Int} {S : Pd} (h : Kp s b S) : Dk.read (crash S []) s = (b, 0) := by
  have := fnd_crash (keep := []) (s := s) rfl 0 S.fs h
  unfold Dk.read
  show (if false = true then _ else match fnd Pf.name s (crashF [] 0 S.fs) with | none => _ | some f => _) = _
  rw [this]
  simp

set_option maxRecDepth 100000 in
set_option maxHeartbeats 8000000 in
theorem diskKeeps_in (s : ByteArray) (A : Option Addr) (n c : Nat) (b : List Int) (B : Option Addr) (m k : Nat) (os : List Wd.Opr) (w : World) (hS : Wd.Sl w .u8 A n c b) (hO : Wd.Os w B m k os) (s0 : 1 ≤ s.size) (s1 : s.size ≤ 32) (hn : n ≤ 300) :
    Calls Try.prog 4 #[.string s, .slice A n c, .slice B m k] w fun e w' => e = .returned (.bool true) ∧ Below w.heap.size w w' := by
  have hl := hO.len
  have hcp := hO.cap
  have hmx := hO.max
  have hcp1 := hS.cap
  have hmx1 := hS.max
  unfold maxLen at hmx hmx1
  have hbl := hS.len
  have g1 : decide ((s.size : Int) < 1) = false := decide_eq_false (by omega)
  have g2 : decide ((32 : Int) < (s.size : Int)) = false := decide_eq_false (by omega)
  have g3 : decide ((300 : Int) < (n : Int)) = false := decide_eq_false (by omega)
  have hs : s.size ≤ 100 := by omega
  have hl' := Lib.hid hl
  have hbl' := Lib.hid hbl
  clear hl hbl
  go_enter Try.func4, Try.ntmps4
  go_wp2_with fail
  refine (awake_any w).mono ?_
  rintro e w1 ⟨rfl, hB1⟩
  have hO1 := hO.below hB1
  have hS1 := hS.below hB1
  clear hO hS
  go_wp2_with fail
  refine (few_any B m k os 80 w1 hO1 (by omega)).mono ?_
  rintro e w2 ⟨q, rfl⟩
  rcases q with ⟨rfl, hFw⟩ | rfl
  · have hn80 : m ≤ 80 := by rw [hl'.out]; exact hFw.1
    have hFw' := Lib.hid hFw
    clear hFw
    go_wp2_with fail
    refine (new_ok 100000 w2 (by omega) (by omega)).mono ?_
    rintro e w3 ⟨d, rfl, hB3, hD3⟩
    have h3 : At w2 w3 d ⟨[], 100000, -1, false⟩ := At.new hB3 hD3
    clear hB3 hD3
    go_wp2_with fail
    have C := at_create h3 s hs
    rw [made1 s0 s1] at C
    refine C.mono ?_
    clear C
    rintro e w4 ⟨rfl, h4⟩
    clear h3
    go_wp2_with fail
    have C := at_append h4 s hs A n c b hS1 (by omega)
    rw [made2 (by rw [← hbl'.out]; exact hn)] at C
    refine C.mono ?_
    clear C
    rintro e w5 ⟨rfl, h5⟩
    clear h4
    go_wp2_with fail
    have C := at_sync h5 s hs
    rw [made3] at C
    refine C.mono ?_
    clear C
    rintro e w6 ⟨rfl, h6⟩
    clear h5
    simp only [] at h6
    go_wp2_with fail
    go_loopw [13] (fun iv wr => ∃ (j : Nat) (S : Pd), iv = .int .i64 (j : Int) ∧ j ≤ m ∧ At w2 wr d S ∧ Hid (Kp s b S)) (fun iv _ => m - (intOf iv).toNat)
    case atStart => exact ⟨0, _, rfl, Nat.zero_le _, h6, kp_start s b⟩
    case round =>
      obtain ⟨j, S, rfl, hj, hAt, hK⟩ := hrel
      obtain ⟨wo, rfl⟩ : ∃ wo : World, wo = wr := ⟨_, rfl⟩
      clear h6
      by_cases hlt : j < m
      · have hko : j < os.length := by rw [← hl'.out]; exact hlt
        obtain ⟨o, ho⟩ : ∃ o, o = os.getD j default := ⟨_, rfl⟩
        have hsm : Sm o := hFw'.out.2 o (by rw [ho]; simp [List.getD, hko])
        have i1 : (j : Int) < (m : Int) := by omega
        obtain ⟨bb, f, rfl, hb, d0, d1, d2, d3, d4, -⟩ := (hO1.below hAt.base).cells hko ho
        obtain ⟨b', f', hbf, hb', -, -, -, -, -, h1'⟩ := hO1.cells hko ho
        obtain ⟨rfl, rfl⟩ : bb = b' ∧ f = f' := by simpa using hbf
        clear hbf ho hko
        by_cases hq : o.name ≠ s ∨ 3 < o.kind ∨ o.kind < 0
        · have hK' : Kp s b (doesS S o).2 := keeps_step hK.out rfl hq
          have HK' := Lib.hid hK'
          have gq : (o.name.toList == s.toList) = false ∨ (o.name.toList == s.toList) = true ∧ decide (3 < o.kind) = true ∨ (o.name.toList == s.toList) = true ∧ decide (3 < o.kind) = false ∧ decide (o.kind < 0) = true := by
            by_cases q0 : o.name = s
            · by_cases q1 : 3 < o.kind
              · exact .inr (.inl ⟨nm_eq q0, decide_eq_true q1⟩)
              · refine .inr (.inr ⟨nm_eq q0, decide_eq_false q1, decide_eq_true ?_⟩)
                rcases hq with hq | hq | hq
                · exact absurd q0 hq
                · exact absurd hq q1
                · exact hq
            · exact .inl (nm_ne q0)
          have hD := does_any hAt o h1' hsm
          change Calls Try.prog 12 #[pt d, .agg #[.int .i64 o.kind, .int .i64 o.num, .string o.name, .slice o.bA o.bn o.bc, .slice o.kA o.kn o.kc]] wo _ at hD
          have hD' := Lib.hid hD
          clear hD hK' hq
          rcases gq with q0 | ⟨q0, q1⟩ | ⟨q0, q1, q2⟩
          all_goals
            go_wp2_with fail
            refine hD'.out.mono ?_
            rintro e w7 ⟨rfl, h7⟩
            clear d0 d1 d2 d3 d4
            go_wp2_with fail
            go_roundw
            case rel => exact ⟨j + 1, _, by simp, hlt, h7, HK'.out⟩
            case measure => simp [intOf]; omega
        · have q0 : (o.name.toList == s.toList) = true := by
            by_cases q : o.name = s
            · exact nm_eq q
            · exact absurd (.inl q) hq
          have q1 : decide (3 < o.kind) = false := decide_eq_false (fun q => hq (.inr (.inl q)))
          have q2 : decide (o.kind < 0) = false := decide_eq_false (fun q => hq (.inr (.inr q)))
          clear hq
          go_wp2_with fail
          go_roundw
          case rel => exact ⟨j + 1, S, by simp, hlt, hAt, hK⟩
          case measure => simp [intOf]; omega
      · go_wp2_with fail
        have C := at_crash hAt none 0 0 [] (Wd.Sl.none_ _ _) (fun x hx => by simp at hx)
        refine C.mono ?_
        clear C
        rintro e w7 ⟨rfl, h7⟩
        go_wp2_with fail
        have C := at_read h7 s hs
        rw [kp_end hK.out] at C
        refine C.mono ?_
        clear C
        rintro e w8 ⟨v, rfl, ho, hb8⟩
        obtain ⟨A8, n8, c8, rfl, hS8⟩ := Wd.Sl.of_own ho
        have h8 := h7.below hb8
        clear h7 hb8 ho
        go_wp2_with fail
        refine (Nc.same_yes _ _ _ _ _ _ b b _ (hS1.below h8.base) hS8 rfl).mono ?_
        rintro e w9 ⟨rfl, hb9⟩
        have h9 := h8.below hb9
        go_wp2_with fail
        go_ret
        exact ⟨rfl, hB1.trans (h9.base.mono hB1.size)⟩
  · go_wp2_with fail
    go_ret
    exact ⟨rfl, hB1⟩
set_option maxRecDepth 100000 in
set_option maxHeartbeats 4000000 in
theorem diskKeeps_out (s : ByteArray) (A : Option Addr) (n c : Nat) (B : Option Addr) (m k : Nat) (os : List Wd.Opr) (w : World) (hO : Wd.Os w B m k os) (hsm : s.size ≤ 9223372036854775807) (hnm : n ≤ 9223372036854775807) (r : ¬ (1 ≤ s.size ∧ s.size ≤ 32 ∧ n ≤ 300)) :
    Calls Try.prog 4 #[.string s, .slice A n c, .slice B m k] w fun e w' => e = .returned (.bool true) ∧ Below w.heap.size w w' := by
  have g : decide ((s.size : Int) < 1) = true ∨ decide ((s.size : Int) < 1) = false ∧ decide ((32 : Int) < (s.size : Int)) = true ∨ decide ((s.size : Int) < 1) = false ∧ decide ((32 : Int) < (s.size : Int)) = false ∧ decide ((300 : Int) < (n : Int)) = true := by
    by_cases q : 1 ≤ s.size
    · by_cases q1 : s.size ≤ 32
      · exact .inr (.inr ⟨decide_eq_false (by omega), decide_eq_false (by omega), decide_eq_true (by omega)⟩)
      · exact .inr (.inl ⟨decide_eq_false (by omega), decide_eq_true (by omega)⟩)
    · exact .inl (decide_eq_true (by omega))
  clear r
  go_enter Try.func4, Try.ntmps4
  go_wp2_with fail
  refine (awake_any w).mono ?_
  rintro e w1 ⟨rfl, hB1⟩
  have hO1 := hO.below hB1
  clear hO
  go_wp2_with fail
  refine (few_any B m k os 80 w1 hO1 (by omega)).mono ?_
  rintro e w2 ⟨q, rfl⟩
  rcases q with ⟨rfl, -⟩ | rfl <;> rcases g with g1 | ⟨g1, g2⟩ | ⟨g1, g2, g3⟩
  all_goals
    go_wp2_with fail
    go_ret
    exact ⟨rfl, hB1⟩
theorem diskKeeps_ok (s : ByteArray) (A : Option Addr) (n c : Nat) (b : List Int) (B : Option Addr) (m k : Nat) (os : List Wd.Opr) (w : World) (hs : s.size ≤ maxLen) (hS : Wd.Sl w .u8 A n c b) (_ : Wd.Fits .u8 b) (hO : Wd.Os w B m k os) :
    Calls Try.prog 4 #[.string s, .slice A n c, .slice B m k] w fun e w' => e = .returned (.bool true) ∧ Below w.heap.size w w' := by
  by_cases h : 1 ≤ s.size ∧ s.size ≤ 32 ∧ n ≤ 300
  · exact diskKeeps_in s A n c b B m k os w hS hO h.1 h.2.1 h.2.2
  · have := hS.cap
    have := hS.max
    unfold maxLen at *
    exact diskKeeps_out s A n c B m k os w hO (by omega) (by omega) h
end Lw
end Go.Proofs.Ythangnhccbnfbaa
