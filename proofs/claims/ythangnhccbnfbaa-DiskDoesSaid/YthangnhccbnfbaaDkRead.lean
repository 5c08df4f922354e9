/- What Read of package disk does: a copy of a file's bytes. -/
import Derived.Test.YthangnhccbnfbaaDkAppend
namespace Go.Proofs.Ythangnhccbnfbaa
open Go.RowKit Go.Maps
namespace Dk
/-- bytes.Clone, with whose memory it is. -/
theorem clone_own (A : Option Addr) (m c : Nat) (bs : List Int) (w : World) (hb : Wd.Sl w .u8 A m c bs) (hm : m ≤ 100000000) :
    Calls Try.prog 38 #[.slice A m c] w fun e w' => ∃ v, e = .returned v ∧ w'.ownsRow w.heap.size 5 1 v bs.length (bs.map (Value.int .u8)) ∧ Below w.heap.size w w' := by
  obtain ⟨i0, hi, hz0, hz1, hz2⟩ := info_parts info_b
  obtain ⟨rfl, hc, hx, hA, hr⟩ := hb
  rcases A with _ | ad
  · obtain rfl := hA rfl
    obtain rfl := hr.none_
    have hnil : ∀ (w : World) (n c : Nat), (binOp .eql 33 (.slice none n c) (.slice none 0 0)).run Try.prog w = .ok (.bool true) w := fun _ _ _ => by kernel_rfl
    go_enter Try.func38, Try.ntmps38
    go_wp2
    go_ret
    exact ⟨_, rfl, World.ownsRow_nil _ _ _ _, Below.refl _ _⟩
  · have hnil : ∀ (w : World) (n c : Nat) , (binOp .eql 33 (.slice (some ad) n c) (.slice none 0 0)).run Try.prog w = .ok (.bool false) w := fun _ _ _ => by kernel_rfl
    go_enter Try.func38, Try.ntmps38
    go_wp2_with (at_builtin; refine Wd.wpList_app _ rfl (.tmp 5) (.tmp 6) 33 rfl w.heap.size 5 i0 _ .u8 1 Try.underlying33 hi hz0 hz1 hz2 rfl (.slice (some ⟨w.heap.size, 0, none⟩) 0 0) [] rfl (World.ownsRow_lit w #[] 0 (Nat.le_refl _) (by simp [maxLen]) rfl) w.heap.size _ _ c bs rfl rfl (by simp) (hr.below ((Below.refl _ _).alloc (Nat.le_refl _) _)) (by simp; omega) (by simp [maxLen]; omega) (by simp) ?_; intro v' w1 hown hbel)
    go_ret
    exact ⟨v', rfl, by simpa using hown, ((Below.refl _ _).alloc (Nat.le_refl _) _).grown hbel (by simp) (by simp [Value.ownBlock])⟩

/-- A call ended with a row of its own of the numbers r.1, and the error r.2. -/
def OutR (w : World) (r : List Int × Int) (e : Ending) (w' : World) : Prop :=
  ∃ v, e = .returned (.tuple #[v, .int .i64 r.2]) ∧ w'.ownsRow w.heap.size 5 1 v r.1.length (r.1.map (Value.int .u8)) ∧ Below w.heap.size w w'
section
variable {w : World} {d : Nat} {G : Nat → Prop} {S : Pd}
theorem read_any (h : Dsk w d G S) (s : ByteArray) (hs : s.size ≤ 100) :
    Calls Try.prog 15 #[pt d, .string s] w (OutR w (read S s)) := by
  obtain ⟨m, L, hl, hp, ok⟩ := h
  have hu : used S.fs = usedF L := by rw [← hp]; exact usedF_pf L
  have hfull := ok.full
  rw [hu] at hfull
  have hE := erN_erF (S := S) hp s
  by_cases he : erN S s = 0
  · obtain ⟨hd, f, hf⟩ := erF_ok (hE.symm.trans he)
    have hfm := (fnd_some hf).1
    have hl0 := hl
    rw [hd] at hl0
    have hF := find_some hl0 s (small hs) f hf
    have e1 : read S s = (f.data, 0) := by
      unfold read
      rw [hd, ← hp, fnd_pf, hf]
      simp [Fil.pf]
    have hle := le_usedF hfm
    have hlen : f.data.length ≤ 100000000 := by omega
    obtain ⟨A0, k0, hv, hsl, -⟩ := hl.shape hfm
    have hBf := hl.fil f hfm
    rw [hv] at hBf
    have b0 := hBf.cell 0
    simp at b0
    have hC := clone_own A0 f.data.length k0 f.data w hsl hlen
    rw [e1]
    clear hp hd hf he hl0 hu e1 hE hv hle hfull
    go_enter Try.func15, Try.ntmps15
    go_wp2_with fail
    refine hF.mono ?_
    rintro e w0 ⟨rfl, rfl⟩
    go_wp2_with fail
    refine hC.mono ?_
    rintro e w1 ⟨v, rfl, ho, hb⟩
    go_wp2_with fail
    go_ret2
    exact ⟨v, rfl, ho, hb⟩
  · have hne : (erN S s != 0) = true := by simpa using he
    have e1 : read S s = ([], erN S s) := by
      unfold read erN
      unfold erN at he
      split
      · rfl
      · rename_i hd
        rw [if_neg hd] at he
        cases q : fnd Pf.name s S.fs
        · simp
        · rw [q] at he
          simp at he
    have hF := find_any hl s (small hs) (erN S s) _ hE rfl
    rw [e1]
    generalize erN S s = er at hF hne he
    have He := Lib.hid he
    clear he hE e1 hu
    go_enter Try.func15, Try.ntmps15
    go_wp2_with fail
    refine hF.mono ?_
    rintro e w' ⟨rfl, rfl⟩
    go_wp2_with fail
    go_ret2
    exact ⟨_, rfl, World.ownsRow_nil _ _ _ _, Below.refl _ _⟩
/-- Used, Dead, List of a disk. -/
theorem dused_any (h : Dsk w d G S) : Calls Try.prog 23 #[pt d] w fun e w' => e = .returned (.int .i64 (used S.fs : Int)) ∧ Below w.heap.size w w' := by
  obtain ⟨m, L, hl, hp, ok⟩ := h
  have hu : used S.fs = usedF L := by rw [← hp]; exact usedF_pf L
  have hfull := ok.full
  rw [hu] at hfull ⊢
  exact used_any hl (by omega)
theorem ddead_any (h : Dsk w d G S) : Calls Try.prog 24 #[pt d] w fun e w' => e = .returned (.bool S.dead) ∧ w' = w := by
  obtain ⟨m, L, hl, hp, ok⟩ := h
  exact dead_any hl
end
end Dk
end Go.Proofs.Ythangnhccbnfbaa
