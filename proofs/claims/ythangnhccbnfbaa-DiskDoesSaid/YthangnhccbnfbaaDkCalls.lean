/- What New, Create, Sync, Delete, Room, Arm of package disk do. -/
import Derived.Test.YthangnhccbnfbaaDkOps
import Derived.Test.YthangnhccbnfbaaDkSpec
namespace Go.Proofs.Ythangnhccbnfbaa
open Go.RowKit Go.Maps
namespace Dk
section
variable {w : World} {d m : Nat} {L : List Fil} {cap arm : Int} {dead : Bool} {G : Nat → Prop}
/-- The error that mayCreate has. -/
def erM (dead : Bool) (s : ByteArray) (L : List Fil) : Int := if dead then 12 else if ¬ (1 ≤ s.size ∧ s.size ≤ 32) then 1 else if (fnd Fil.name s L).isSome then 8 else if 256 ≤ L.length then 4 else 0
theorem mayCreate_any (h : Lay w d m L cap arm dead G) (s : ByteArray) (hs : s.size ≤ maxLen) (hL : L.length ≤ 100000) (er : Int) (he : er = erM dead s L) :
    Calls Try.prog 40 #[pt d, .string s] w fun e w' => e = .returned (.int .i64 er) ∧ w' = w := by
  have hN := isName_any s w
  have c0 := h.box.cell 0
  simp at c0
  have hlen := fun ty => h.own.len Try.underlying56 ty
  simp only [size_Dm] at hlen
  unfold erM at he
  cases dead
  · rw [if_neg (by simp)] at he
    by_cases hn : 1 ≤ s.size ∧ s.size ≤ 32
    · rw [if_neg (by simpa using hn)] at he
      rw [decide_eq_true hn] at hN
      cases hf : fnd Fil.name s L
      · rw [hf, if_neg (by simp)] at he
        have hF := find_none h s hs hf
        by_cases hl : 256 ≤ L.length
        · rw [if_pos hl] at he
          subst he
          have i1 : (256 : Int) ≤ (L.length : Int) := by omega
          clear hf
          go_enter Try.func40, Try.ntmps40
          go_wp2_with fail
          refine hF.mono ?_
          rintro e w' ⟨rfl, rfl⟩
          go_wp2_with fail
          refine hN.mono ?_
          rintro e w' ⟨rfl, rfl⟩
          go_wp2_with fail
          go_ret
          exact ⟨rfl, rfl⟩
        · rw [if_neg hl] at he
          subst he
          have i1 : decide (256 ≤ (L.length : Int)) = false := decide_eq_false (by omega)
          clear hf hl
          go_enter Try.func40, Try.ntmps40
          go_wp2_with fail
          refine hF.mono ?_
          rintro e w' ⟨rfl, rfl⟩
          go_wp2_with fail
          refine hN.mono ?_
          rintro e w' ⟨rfl, rfl⟩
          go_wp2_with fail
          go_ret
          exact ⟨rfl, rfl⟩
      · rename_i f
        rw [hf, if_pos (by simp)] at he
        subst he
        have hF := find_some h s hs f hf
        clear hf
        go_enter Try.func40, Try.ntmps40
        go_wp2_with fail
        refine hF.mono ?_
        rintro e w' ⟨rfl, rfl⟩
        go_wp2_with fail
        refine hN.mono ?_
        rintro e w' ⟨rfl, rfl⟩
        go_wp2_with fail
        go_ret
        exact ⟨rfl, rfl⟩
    · rw [if_pos hn] at he
      rw [decide_eq_false hn] at hN
      subst he
      obtain ⟨er', hr'⟩ : ∃ er', er' = erF false s L := ⟨_, rfl⟩
      have hF := find_any h s hs er' _ hr' rfl
      have hne : (er' == 12) = false := by rw [hr']; unfold erF; split <;> (try split) <;> simp_all
      clear hr'
      go_enter Try.func40, Try.ntmps40
      go_wp2_with fail
      refine hF.mono ?_
      rintro e w' ⟨rfl, rfl⟩
      go_wp2_with fail
      refine hN.mono ?_
      rintro e w' ⟨rfl, rfl⟩
      go_wp2_with fail
      go_ret
      exact ⟨rfl, rfl⟩
  · rw [if_pos rfl] at he
    subst he
    have hF := find_dead h s
    go_enter Try.func40, Try.ntmps40
    go_wp2_with fail
    refine hF.mono ?_
    rintro e w' ⟨rfl, rfl⟩
    go_wp2_with fail
    go_ret
    exact ⟨rfl, rfl⟩
end

theorem new_ok (n : Int) (w : World) (h0 : 0 ≤ n) (h1 : n ≤ 16777216) :
    Calls Try.prog 10 #[.int .i64 n] w fun e w' => ∃ d, e = .returned (.tuple #[pt d, .int .i64 0]) ∧ Below w.heap.size w w' ∧ Dsk w' d (fun g => w.heap.size ≤ g ∧ g < w'.heap.size) ⟨[], n, -1, false⟩ := by
  have hC := isCap_yes n w h0 h1
  have hmm := @run_makeMap Try.prog
  go_enter Try.func10, Try.ntmps10
  go_wp2_with fail
  refine hC.mono ?_
  rintro e w' ⟨rfl, rfl⟩
  go_wp2_with fail
  go_ret2
  have hb : Below w'.heap.size w' ((w'.alloc (.map #[] 0)).alloc (.cells #[.map (some w'.heap.size), .int .i64 n, .int .i64 (-1), .bool false] 58)) :=
    ((Below.refl _ _).alloc (Nat.le_refl _) _).alloc (by simp) _
  refine ⟨w'.heap.size + 1, by simp, hb, w'.heap.size, [], ⟨?_, ?_, by simp, by simp, by simp, by simp, ?_, ?_, by simp, by simp, fun g hg => hg.2⟩, rfl, ok_new h0 h1⟩
  · have := Wd.Bx.new (w'.alloc (.map #[] 0)) 58 #[.map (some w'.heap.size), .int .i64 n, .int .i64 (-1), .bool false]
    simpa using this
  · exact (World.ownsMap_made w' Try.prog 9 fp).alloc _
  · simp
  · simp
    omega
theorem new_no (n : Int) (w : World) (h : n < 0 ∨ 16777216 < n) :
    Calls Try.prog 10 #[.int .i64 n] w fun e w' => e = .returned (.tuple #[.pointer none, .int .i64 1]) ∧ w' = w := by
  have hC := isCap_no n w h
  go_enter Try.func10, Try.ntmps10
  go_wp2_with fail
  refine hC.mono ?_
  rintro e w' ⟨rfl, rfl⟩
  go_wp2_with fail
  go_ret2
  exact ⟨rfl, rfl⟩

section
variable {w : World} {d : Nat} {G : Nat → Prop} {S : Pd}
theorem small {s : ByteArray} (hs : s.size ≤ 100) : s.size ≤ maxLen := by unfold maxLen; omega
theorem gate_err {er : Int} {g : List Pf → List Pf} (he : er ≠ 0) : gate S er g = (er, S) := by unfold gate; rw [if_pos he]
theorem gate_die {g : List Pf → List Pf} (ha : S.arm = 0) : gate S 0 g = (12, { S with dead := true }) := by unfold gate; rw [if_neg (by simp), if_pos ha]
theorem gate_go {g : List Pf → List Pf} (ha : S.arm ≠ 0) : gate S 0 g = (0, { S with fs := g S.fs, arm := if 0 < S.arm then S.arm - 1 else S.arm }) := by unfold gate; rw [if_neg (by simp), if_neg ha]
theorem fnd_pf (s : ByteArray) (L : List Fil) : fnd Pf.name s (L.map Fil.pf) = (fnd Fil.name s L).map Fil.pf := map_fnd Fil.pf (fun _ => rfl) s L
theorem mv_one {w w' : World} {G : Nat → Prop} {d : Nat} (hg : w.grownBy w' (some d)) (hd : G d) : Wd.Mv G w w' := Wd.Mv.of_grown hg fun g e => by cases e; exact hd

theorem create_any (h : Dsk w d G S) (s : ByteArray) (hs : s.size ≤ 100) :
    Calls Try.prog 18 #[pt d, .string s] w (Did w d G (create S s)) := by
  obtain ⟨m, L, hl, hp, ok⟩ := h
  have okC := ok.create s
  have few := ok.few
  have hL : L.length ≤ 256 := by rw [← hp] at few; simpa using few
  have hE : erC S s = erM S.dead s L := by
    unfold erC erM
    rw [← hp, fnd_pf]
    simp
  have hM := mayCreate_any hl s (small hs) (by omega) (erC S s) hE
  by_cases he : erC S s = 0
  · have hn : fnd Fil.name s L = none := by
      rw [hE] at he
      unfold erM at he
      split at he
      · cases he
      split at he
      · cases he
      split at he
      · cases he
      rename_i hf
      cases q : fnd Fil.name s L
      · rfl
      · rw [q] at hf; simp at hf
    rw [he] at hM
    have okC' := Lib.hid okC
    have hp' := Lib.hid hp
    have hn' := Lib.hid hn
    have he' := Lib.hid he
    clear okC hE hp hn he
    by_cases ha : S.arm = 0
    · rw [ha] at hl
      have hS := step_no hl
      go_enter Try.func18, Try.ntmps18
      go_wp2_with fail
      refine hM.mono ?_
      rintro e w' ⟨rfl, rfl⟩
      go_wp2_with fail
      refine hS.mono ?_
      rintro e w1 ⟨rfl, hl1, hg1, hz1⟩
      go_wp2_with fail
      go_ret
      have hp := hp'.out
      have e1 : create S s = (12, { S with dead := true }) := by unfold create; rw [he'.out]; exact gate_die ha
      rw [e1]
      refine ⟨rfl, mv_one hg1 hl.gd, Dsk.gr ⟨m, L, ?_, hp, ?_⟩ hg1.size hl.bd⟩
      · show Lay w1 d m L S.cap S.arm true G
        rw [ha]; exact hl1
      · have := okC'.out
        rw [e1] at this
        exact this
    · have hS := step_yes hl ha ok.arm0 ok.arm1 _ rfl
      have ha' := Lib.hid ha
      clear ha
      go_enter Try.func18, Try.ntmps18
      go_wp2_with fail
      refine hM.mono ?_
      rintro e w' ⟨rfl, rfl⟩
      go_wp2_with fail
      refine hS.mono ?_
      rintro e w1 ⟨rfl, hl1, hg1, -⟩
      have c0 := hl1.box.cell 0
      simp at c0
      go_wp2_with (first
        | (at_mapUpdate; refine wpList_mapUpdate_own _ rfl _ _ _ 56 rfl 9 65 law Try.underlying56 fp m L.length (Dm L) rfl (hl1.own.alloc _) (by unfold maxLen; omega) _ _ (ky s) rfl rfl (key_of (small hs)) (.lit (.int .i64 (w1.heap.size : Int))) [] rfl ?_; intro w2 hown2 hg2)
        | fail)
      go_ret
      have e1 : create S s = (0, { S with fs := ins Pf.name ⟨s, [], 0⟩ S.fs, arm := if 0 < S.arm then S.arm - 1 else S.arm }) := by unfold create; rw [he'.out]; exact gate_go ha'.out
      rw [e1]
      have hp := hp'.out
      have hn := hn'.out
      have hga := World.grownBy_alloc w1 (.cells #[.slice none 0 0, .int .i64 0] 70) none
      have mv : Wd.Mv G w' w2 := ((mv_one hg1 hl.gd).then (Wd.Mv.of_grown hga (by simp))).then (mv_one hg2 hl.gm)
      refine ⟨rfl, mv, m, ins Fil.name ⟨s, [], 0, w1.heap.size, .slice none 0 0⟩ L, ?_, ?_, ?_⟩
      · have hs1 : w'.heap.size ≤ w1.heap.size := hg1.size
        have hs2 : w1.heap.size ≤ w2.heap.size := Nat.le_trans hga.size hg2.size
        have := hl1.put (w' := w2) (f := ⟨s, [], 0, w1.heap.size, .slice none 0 0⟩) hn hown2 ?_ (World.ownsRow_nil _ _ _ _) (Nat.le_refl _) (by simp [Value.ownBlock]) ?_ hs2
        · refine this.grow (fun g hg => ?_) (Wd.Gr.lt hl.bd (Nat.le_trans hs1 hs2))
          rcases hg with q | q
          · exact .inl q
          · exact .inr (by omega)
        · refine (Wd.Bx.new w1 _ _).grown hg2 ?_
          have := hl1.own.lt
          simp
          omega
        · intro g hg hne
          exact (hg2.block g (Nat.lt_of_lt_of_le hg hga.size) (by simpa using hne)).trans (hga.block g hg (by simp))
      · rw [map_ins (nm := Fil.name) (nm' := Pf.name) Fil.pf (fun _ => rfl), hp]
        rfl
      · have := okC'.out
        rw [e1] at this
        exact this
  · have hne : (erC S s != 0) = true := by simpa using he
    have e1 : create S s = (erC S s, S) := gate_err he
    rw [e1]
    generalize erC S s = er at hM hne he
    have He := Lib.hid he
    clear he hE e1
    go_enter Try.func18, Try.ntmps18
    go_wp2_with fail
    refine hM.mono ?_
    rintro e w' ⟨rfl, rfl⟩
    go_wp2_with fail
    go_ret
    exact ⟨rfl, Wd.Mv.refl _ _, Dsk.gr ⟨m, L, hl, hp, ok⟩ (Nat.le_refl _) hl.bd⟩
end
end Dk
end Go.Proofs.Ythangnhccbnfbaa
