/- What the statements' function awake of layer 5 does: the chapter's example. -/
import Derived.Test.YthangnhccbnfbaaDkLawW
import Derived.Test.YthangnhccbnfbaaRefSame
namespace Go.Proofs.Ythangnhccbnfbaa
open Go.RowKit Go.Maps
namespace Dk
/-- The name of one letter. -/
def nmA : ByteArray := ⟨#[97]⟩
section
variable {wo w : World} {d : Nat} {S : Pd}
theorem at_append_new (h : At wo w d S) (s : ByteArray) (hs : s.size ≤ 100) (b : List Int) (cs : Array Value) (n : Nat) (hc : cs = (b.map (Value.int .u8)).toArray) (hn : n = b.length) (hm : n ≤ 1000000) :
    Calls Try.prog 19 #[pt d, .string s, .slice (some ⟨w.heap.size, 0, none⟩) n n] (w.alloc (.cells cs 5)) (Ans wo d (append S s b)) := by
  obtain ⟨G, h1, h2, h3⟩ := h
  have hb := (Below.refl w.heap.size w).alloc (Nat.le_refl _) (.cells cs 5)
  have hS := Wd.Sl.lit w .u8 b 5 cs n hc hn (by unfold maxLen; omega)
  refine (append_any (h1.below hb) s hs _ n n b (fun W hW => hS.mv (fun a ha hg => ?_) hW) hm).mono fun e w' ⟨he, mv, hD⟩ => ⟨he, At.mv h2 (h3.trans (hb.mono h3.size)) mv hD⟩
  cases ha
  have := h1.bd _ hg
  simp at this
theorem at_crash_new (h : At wo w d S) (keep : List Int) (cs : Array Value) (n : Nat) (hc : cs = (keep.map (Value.int .i64)).toArray) (hn : n = keep.length) (hm : n ≤ 1000000) (hF : Wd.Fits .i64 keep) :
    Calls Try.prog 21 #[pt d, .slice (some ⟨w.heap.size, 0, none⟩) n n] (w.alloc (.cells cs 3)) (Ans0 wo d (crash S keep)) := by
  obtain ⟨G, h1, h2, h3⟩ := h
  have hb := (Below.refl w.heap.size w).alloc (Nat.le_refl _) (.cells cs 3)
  have hS := Wd.Sl.lit w .i64 keep 3 cs n hc hn (by unfold maxLen; omega)
  refine (crash_any (h1.below hb) _ n n keep (fun W hW => hS.mv (fun a ha hg => ?_) hW) hF).mono fun e w' ⟨he, mv, hD⟩ => ⟨he, At.mv h2 (h3.trans (hb.mono h3.size)) mv hD⟩
  cases ha
  have := h1.bd _ hg
  simp at this
end
set_option maxRecDepth 100000 in
set_option maxHeartbeats 2000000 in
theorem awake_any (w : World) :
    Calls Try.prog 8 #[] w fun e w' => e = .returned (.bool true) ∧ Below w.heap.size w w' := by
  obtain ⟨i0, hi, hz0, hz1, hz2⟩ := info_parts info_b
  have hmk : ∀ W : World, (Instr.makeSlice 33 (.int .i64 8) (.int .i64 8)).run Try.prog W = .ok (.slice (some ⟨W.heap.size, 0, none⟩) 8 8) (W.alloc (.cells #[.int .u8 0, .int .u8 0, .int .u8 0, .int .u8 0, .int .u8 0, .int .u8 0, .int .u8 0, .int .u8 0] 5)) := fun _ => by kernel_rfl
  have a1 : nmA.size ≤ 100 := by decide
  have r1 : create ⟨[], 9, -1, false⟩ nmA = (0, ⟨[⟨nmA, [], 0⟩], 9, -1, false⟩) := rfl
  have r2 : append ⟨[⟨nmA, [], 0⟩], 9, -1, false⟩ nmA [1, 2, 3] = (0, ⟨[⟨nmA, [1, 2, 3], 0⟩], 9, -1, false⟩) := rfl
  have r3 : crash ⟨[⟨nmA, [1, 2, 3], 0⟩], 9, -1, false⟩ [2] = ⟨[⟨nmA, [1, 2], 2⟩], 9, -1, false⟩ := rfl
  have r4 : read ⟨[⟨nmA, [1, 2], 2⟩], 9, -1, false⟩ nmA = ([1, 2], 0) := rfl
  have r5 : append ⟨[⟨nmA, [1, 2], 2⟩], 9, -1, false⟩ nmA [0, 0, 0, 0, 0, 0, 0, 0] = (4, ⟨[⟨nmA, [1, 2], 2⟩], 9, -1, false⟩) := rfl
  have R1 := Lib.hid r1
  have R2 := Lib.hid r2
  have R3 := Lib.hid r3
  have R4 := Lib.hid r4
  have R5 := Lib.hid r5
  clear r1 r2 r3 r4 r5
  go_enter Try.func8, Try.ntmps8
  go_wp2_with fail
  refine (new_ok 9 w (by omega) (by omega)).mono ?_
  rintro e w1 ⟨d, rfl, hB1, hD1⟩
  have h1 : At w w1 d ⟨[], 9, -1, false⟩ := At.new hB1 hD1
  clear hB1 hD1
  go_wp2_with fail
  have C := at_create h1 nmA a1
  rw [R1.out] at C
  refine C.mono ?_
  clear C
  rintro e w2 ⟨rfl, h2⟩
  simp only [] at h2
  clear h1
  go_wp2_with fail
  have C := at_append_new h2 nmA a1 [1, 2, 3] #[.int .u8 1, .int .u8 2, .int .u8 3] 3 rfl rfl (by omega)
  rw [R2.out] at C
  refine C.mono ?_
  clear C
  rintro e w3 ⟨rfl, h3⟩
  simp only [] at h3
  clear h2
  go_wp2_with fail
  have C := at_crash_new h3 [2] #[.int .i64 2] 1 rfl rfl (by omega) (fun x hx => by simp only [List.mem_singleton] at hx; subst hx; decide)
  rw [R3.out] at C
  refine C.mono ?_
  clear C
  rintro e w4 ⟨rfl, h4⟩
  clear h3
  go_wp2_with fail
  have C := at_read h4 nmA a1
  rw [R4.out] at C
  refine C.mono ?_
  clear C
  rintro e w5 ⟨v, rfl, ho, hb5⟩
  obtain ⟨A5, n5, c5, rfl, hS5⟩ := Wd.Sl.of_own ho
  have h5 := h4.below hb5
  clear h4 ho hb5
  go_wp2_with fail
  have hbx := (Below.refl w5.heap.size w5).alloc (Nat.le_refl _) (.cells #[.int .u8 1, .int .u8 2] 5)
  refine (Nc.same_yes _ _ _ _ _ _ [1, 2] [1, 2] _ (hS5.below hbx) (Wd.Sl.lit w5 .u8 [1, 2] 5 _ 2 rfl rfl (by simp [maxLen])) rfl).mono ?_
  rintro e w6 ⟨rfl, hb6⟩
  have h6 := h5.below (hbx.trans (hb6.mono hbx.size))
  clear h5 hS5 hbx hb6
  go_wp2_with fail
  have C := at_append_new h6 nmA a1 [0, 0, 0, 0, 0, 0, 0, 0] #[.int .u8 0, .int .u8 0, .int .u8 0, .int .u8 0, .int .u8 0, .int .u8 0, .int .u8 0, .int .u8 0] 8 rfl rfl (by omega)
  rw [R5.out] at C
  refine C.mono ?_
  clear C
  rintro e w7 ⟨rfl, h7⟩
  simp only [] at h7
  clear h6 hmk
  go_wp2_with fail
  refine (at_used h7).mono ?_
  rintro e w8 ⟨rfl, hb8⟩
  have h8 := h7.below hb8
  clear h7 hb8
  have e8 : ((used [⟨nmA, [1, 2], 2⟩] : Nat) : Int) = 2 := rfl
  rw [e8]
  clear e8
  go_wp2_with fail
  refine (at_list h8).mono ?_
  rintro e w9 ⟨v9, rfl, ho9, hb9⟩
  have h9 := h8.below hb9
  obtain ⟨A9, c9, rfl, -, -⟩ := Ns.of_own ho9
  clear h8 hb9 ho9
  go_wp2_with fail
  go_ret
  exact ⟨rfl, h9.base⟩
end Dk
end Go.Proofs.Ythangnhccbnfbaa
