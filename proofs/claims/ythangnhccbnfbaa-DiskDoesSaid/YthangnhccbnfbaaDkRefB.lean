/- What dies, New, SetRoom, Read, Sync of the reference's disk do. -/
import Derived.Test.YthangnhccbnfbaaDkRef
namespace Go.Proofs.Ythangnhccbnfbaa
open Go.RowKit Go.Maps
namespace Dk
/-- How the reference is armed. -/
def Am (am : Bool) (lf arm : Int) : Prop := (am = true → lf = arm ∧ 0 ≤ arm) ∧ (am = false → arm < 0)
/-- The reference's disk in memory is the disk S. -/
def Rsk (w : World) (r : Nat) (H : Nat → Prop) (S : Pd) : Prop := ∃ v L am lf, Ref w r v L S.cap am lf S.dead H ∧ L.map Fil.pf = S.fs ∧ S.Ok ∧ Am am lf S.arm ∧ (Lit.int .i64 lf).wf = true
def RDid (w : World) (r : Nat) (H : Nat → Prop) (x : Int × Pd) (e : Ending) (w' : World) : Prop := e = .returned (.int .i64 x.1) ∧ Wd.Mv H w w' ∧ Rsk w' r (Wd.Gr H w w') x.2
def RDid0 (w : World) (r : Nat) (H : Nat → Prop) (S : Pd) (e : Ending) (w' : World) : Prop := e = .returned (.tuple #[]) ∧ Wd.Mv H w w' ∧ Rsk w' r (Wd.Gr H w w') S
section
variable {w w' : World} {r : Nat} {H : Nat → Prop} {S : Pd}
theorem Rsk.below (h : Rsk w r H S) (hb : Below w.heap.size w w') : Rsk w' r H S := by
  obtain ⟨v, L, am, lf, h1, h2⟩ := h
  exact ⟨v, L, am, lf, h1.below hb, h2⟩
theorem Rsk.other {G : Nat → Prop} (h : Rsk w r H S) (k : Wd.Mv G w w') (hn : ∀ g, H g → ¬ G g) : Rsk w' r H S := by
  obtain ⟨v, L, am, lf, h1, h2⟩ := h
  exact ⟨v, L, am, lf, h1.other k hn, h2⟩
theorem Rsk.bd (h : Rsk w r H S) : ∀ g, H g → g < w.heap.size := by
  obtain ⟨v, L, am, lf, h1, h2⟩ := h
  exact h1.bd
theorem Rsk.gr (h : Rsk w' r H S) (hs : w.heap.size ≤ w'.heap.size) (hb : ∀ g, H g → g < w.heap.size) : Rsk w' r (Wd.Gr H w w') S := by
  obtain ⟨v, L, am, lf, h1, h2⟩ := h
  exact ⟨v, L, am, lf, h1.grow (fun _ hg => .inl hg) (Wd.Gr.lt hb hs), h2⟩
end
theorem Ref.turn {w w' : World} {r : Nat} {v v' : Value} {L L' : List Fil} {room lf lf' room' : Int} {am dead am' dead' : Bool} {H : Nat → Prop} (h : Ref w r v L room am lf dead H)
    (hbox : Wd.Bx w' r 61 #[v', .int .i64 room', .bool am', .int .i64 lf', .bool dead']) (hrow : w'.ownsRow 0 64 3 v' L'.length (flat3 L'))
    (hfil : ∀ f ∈ L', w'.ownsRow 0 5 1 f.v f.data.length (f.data.map (Value.int .u8))) (hs : w.heap.size ≤ w'.heap.size)
    (hv : ∀ x, v'.ownBlock = some x → H x ∨ w.heap.size ≤ x) (hf : ∀ f ∈ L', ∀ x, f.v.ownBlock = some x → H x ∨ w.heap.size ≤ x) : Ref w' r v' L' room' am' lf' dead' (Wd.Gr H w w') :=
  ⟨hbox, hrow, hfil, .inl h.hr, fun x hx => (hv x hx).imp id fun q => ⟨q, (Wd.own_lt hrow hx).1⟩, fun f hff x hx => (hf f hff x hx).imp id fun q => ⟨q, (Wd.own_lt (hfil f hff) hx).1⟩, Wd.Gr.lt h.bd hs⟩

section
variable {w : World} {r : Nat} {v : Value} {L : List Fil} {room lf : Int} {am dead : Bool} {H : Nat → Prop}
theorem rdies_yes {dead : Bool} (h : Ref w r v L room true 0 dead H) :
    Calls Try.prog 45 #[pt r] w fun e w' => e = .returned (.bool true) ∧ Ref w' r v L room true 0 true H ∧ w.grownBy w' (some r) := by
  have c2 := h.box.cell 2
  have c3 := h.box.cell 3
  have c4 := h.box.cell 4
  have f4 := h.box.free 4
  simp at c2 c3 c4
  have hb := h.box.set 4 (.bool true)
  go_enter Try.func45, Try.ntmps45
  go_wp2_with fail
  go_ret
  have hg : w.grownBy (w.setCell ⟨r, 4, none⟩ (.bool true)) (some r) := ⟨rfl, rfl, rfl, by simp [World.setCell], fun k _ hk => Below.heap_setCell _ _ _ _ (by simpa using hk)⟩
  exact ⟨rfl, h.turn_box (by simpa using hb) hg, hg⟩
theorem rdies_no {arm : Int} (h : Ref w r v L room am lf dead H) (hA : Am am lf arm) (h0 : arm ≠ 0) (hw : (Lit.int .i64 lf).wf = true) (arm' : Int) (hE : Hid (arm' = if 0 < arm then arm - 1 else arm)) :
    Calls Try.prog 45 #[pt r] w fun e w' => e = .returned (.bool false) ∧ ∃ lf', Ref w' r v L room am lf' dead H ∧ w.grownBy w' (some r) ∧ Am am lf' arm' ∧ (Lit.int .i64 lf').wf = true := by
  have c2 := h.box.cell 2
  have c3 := h.box.cell 3
  simp at c2 c3
  cases am
  · have ha := hA.2 rfl
    have hA' := Lib.hid hA
    clear hA
    go_enter Try.func45, Try.ntmps45
    go_wp2_with fail
    go_ret
    refine ⟨rfl, lf, h, World.grownBy.refl _ _, ?_, hw⟩
    rw [hE.out, if_neg (by omega)]
    exact hA'.out
  · obtain ⟨rfl, ha⟩ := hA.1 rfl
    have hbn := bounds_i64 hw
    have f3 := h.box.free 3
    have hb := h.box.set 3 (.int .i64 (lf - 1))
    have g0 : (lf == 0) = false := by simpa using h0
    have i1 : 1 ≤ lf := by omega
    clear hA h0
    go_enter Try.func45, Try.ntmps45
    go_wp2_with fail
    go_ret
    have hg : w.grownBy (w.setCell ⟨r, 3, none⟩ (.int .i64 (lf - 1))) (some r) := ⟨rfl, rfl, rfl, by simp [World.setCell], fun k _ hk => Below.heap_setCell _ _ _ _ (by simpa using hk)⟩
    refine ⟨rfl, lf - 1, h.turn_box (by simpa using hb) hg, hg, ?_, WalkArith.wf_i64 (by omega)⟩
    rw [hE.out, if_pos (by omega)]
    exact ⟨fun _ => ⟨rfl, by omega⟩, fun q => by cases q⟩
end
theorem rnew_ok (n : Int) (w : World) (h0 : 0 ≤ n) (h1 : n ≤ 16777216) :
    Calls Try.prog 11 #[.int .i64 n] w fun e w' => ∃ r, e = .returned (.tuple #[pt r, .int .i64 0]) ∧ Below w.heap.size w w' ∧ Rsk w' r (fun g => w.heap.size ≤ g ∧ g < w'.heap.size) ⟨[], n, -1, false⟩ := by
  have g1 : decide (n < 0) = false := decide_eq_false (by omega)
  have g2 : decide (16777216 < n) = false := decide_eq_false (by omega)
  go_enter Try.func11, Try.ntmps11
  go_wp2_with fail
  go_ret2
  refine ⟨w.heap.size, rfl, (Below.refl _ _).alloc (Nat.le_refl _) _, .slice none 0 0, [], false, 0, ⟨Wd.Bx.new w _ _, World.ownsRow_nil _ _ _ _, by simp, by simp, by simp [Value.ownBlock], by simp, fun g hg => hg.2⟩, rfl, ok_new h0 h1, ⟨fun q => (by cases q), fun _ => (show (-1 : Int) < 0 by omega)⟩, by decide⟩
theorem rnew_no (n : Int) (w : World) (h : n < 0 ∨ 16777216 < n) :
    Calls Try.prog 11 #[.int .i64 n] w fun e w' => e = .returned (.tuple #[.pointer none, .int .i64 1]) ∧ w' = w := by
  have g : decide (n < 0) = true ∨ decide (n < 0) = false ∧ decide (16777216 < n) = true := by
    by_cases q : n < 0
    · exact .inl (decide_eq_true q)
    · exact .inr ⟨decide_eq_false q, decide_eq_true (by omega)⟩
  clear h
  rcases g with g1 | ⟨g1, g2⟩
  all_goals
    go_enter Try.func11, Try.ntmps11
    go_wp2_with fail
    go_ret2
    exact ⟨rfl, rfl⟩

section
variable {w : World} {r : Nat} {H : Nat → Prop} {S : Pd}
theorem rroom_any (h : Rsk w r H S) (n : Int) :
    Calls Try.prog 34 #[pt r, .int .i64 n] w (RDid0 w r H (room S n)) := by
  obtain ⟨v, L, am, lf, hl, hp, ok, hA, hw⟩ := h
  have okC := ok.roomed n
  by_cases hn : 0 ≤ n ∧ n ≤ 16777216
  · have g1 : decide (0 ≤ n) = true := decide_eq_true hn.1
    have g2 : decide (n ≤ 16777216) = true := decide_eq_true hn.2
    have f1 := hl.box.free 1
    have c1 := hl.box.cell 1
    simp at c1
    have hb := hl.box.set 1 (.int .i64 n)
    have e1 : room S n = { S with cap := n } := if_pos hn
    rw [e1] at okC ⊢
    have hp' := Lib.hid hp
    clear e1 hp hn
    go_enter Try.func34, Try.ntmps34
    go_wp2_with fail
    go_end0
    have hg : w.grownBy (w.setCell ⟨r, 1, none⟩ (.int .i64 n)) (some r) := ⟨rfl, rfl, rfl, by simp [World.setCell], fun k _ hk => Below.heap_setCell _ _ _ _ (by simpa using hk)⟩
    exact ⟨rfl, mv_one hg hl.hr, Rsk.gr ⟨v, L, am, lf, hl.turn_box (by simpa using hb) hg, hp'.out, okC, hA, hw⟩ hg.size hl.bd⟩
  · have g : decide (0 ≤ n) = false ∨ decide (0 ≤ n) = true ∧ decide (n ≤ 16777216) = false := by
      by_cases q : 0 ≤ n
      · exact .inr ⟨decide_eq_true q, decide_eq_false (fun k => hn ⟨q, k⟩)⟩
      · exact .inl (decide_eq_false q)
    have e1 : room S n = S := if_neg hn
    rw [e1]
    have hp' := Lib.hid hp
    clear e1 hp hn okC
    rcases g with g1 | ⟨g1, g2⟩
    all_goals
      go_enter Try.func34, Try.ntmps34
      go_wp2_with fail
      go_end0
      exact ⟨rfl, Wd.Mv.refl _ _, Rsk.gr ⟨v, L, am, lf, hl, hp'.out, ok, hA, hw⟩ (Nat.le_refl _) hl.bd⟩
theorem rread_any (h : Rsk w r H S) (s : ByteArray) :
    Calls Try.prog 16 #[pt r, .string s] w fun e w' => ∃ A n c, e = .returned (.tuple #[.slice A n c, .int .i64 (Dk.read S s).2]) ∧ Wd.Sl w .u8 A n c (Dk.read S s).1 ∧ w' = w := by
  obtain ⟨v, L, am, lf, hl, hp, ok, hA, hw⟩ := h
  have c4 := hl.box.cell 4
  simp at c4
  cases hd : S.dead
  · rw [hd] at c4 hl
    cases q : fnd Fil.name s L
    · have er : Dk.read S s = ([], 3) := by
        unfold Dk.read
        rw [hd, if_neg (by simp), ← hp, fnd_pf, q]
        rfl
      rw [er]
      have hN := rAt_none hl s q
      clear q er
      go_enter Try.func16, Try.ntmps16
      go_wp2_with fail
      refine hN.mono ?_
      rintro e w1 ⟨rfl, rfl⟩
      go_wp2_with fail
      go_ret2
      exact ⟨none, 0, 0, rfl, Wd.Sl.none_ _ _, rfl⟩
    · rename_i f
      have er : Dk.read S s = (f.data, 0) := by
        unfold Dk.read
        rw [hd, if_neg (by simp), ← hp, fnd_pf, q]
        rfl
      rw [er]
      obtain ⟨i, hi, hif, hfs, hbf⟩ := place q
      have hN := rAt_some hl s i hi (by rw [hif]; exact hfs) hbf
      have hfil := hl.fil f (fnd_some q).1
      obtain ⟨-, A, c, rfl, hF, -⟩ := Fs.of_own hl.row
      have c0 := hl.box.cell 0
      simp at c0
      obtain ⟨b, rfl, hlt, d0, d1, d2⟩ := hF.rd i hi
      obtain ⟨A1, n1, c1, hv, hs1⟩ := Wd.Sl.of_own hfil
      rw [hif, hv] at d1
      have i1 : (i : Int) < (L.length : Int) := by omega
      have i2 : (0 : Int) ≤ (i : Int) := by omega
      have hcp := hF.cap
      have hmx := hF.max
      unfold maxLen at hmx
      have hd' := Lib.hid hd
      clear q er hif hfs hbf d0 d2 hF hv hfil hd hp
      go_enter Try.func16, Try.ntmps16
      go_wp2_with fail
      refine hN.mono ?_
      rintro e w1 ⟨rfl, rfl⟩
      go_wp2_with fail
      go_ret2
      exact ⟨A1, n1, c1, rfl, hs1, rfl⟩
  · have er : Dk.read S s = ([], 12) := by
      unfold Dk.read
      rw [hd]
      simp
    rw [er]
    rw [hd] at c4
    clear er
    go_enter Try.func16, Try.ntmps16
    go_wp2_with fail
    go_ret2
    exact ⟨none, 0, 0, rfl, Wd.Sl.none_ _ _, rfl⟩
end
end Dk
end Go.Proofs.Ythangnhccbnfbaa
