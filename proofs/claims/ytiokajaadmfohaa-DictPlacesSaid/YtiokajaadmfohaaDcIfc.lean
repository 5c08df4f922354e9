/- What the statements of layer 8 ask of a dictionary in memory: contracts of its methods, as one word; the chapter's example. -/
import Derived.Test.YtiokajaadmfohaaDcRefB
import Derived.Test.YtiokajaadmfohaaDcRefC
import Derived.Test.YtiokajaadmfohaaDcRefD
import Derived.Test.YtiokajaadmfohaaRefInts
import Derived.Test.YtiokajaadmfohaaMv
namespace Go.Proofs.Ytiokajaadmfohaa
set_option maxRecDepth 20000
open Go.RowKit
namespace Dx
open Va (Vl May ord null)
open Sc (tr tr_yes tr_no tr_iff)
open Dc
/-- A value as the machine holds it. -/
def ag (v : Vl) : Value := .agg #[.int .i64 v.kind, .int .i64 v.i, .string v.s, .bool v.b]
/-- Values whose numbers are the machine's, and whose texts are no longer than any. -/
def Okv (v : Vl) : Prop := Wd.V1 v ∧ v.s.size ≤ maxLen
/-- 'D w d L k G': at block d of w lies a dictionary of the list L, made for k values, in blocks of G alone. What its methods do. -/
structure Ifc (D : World → Nat → List Vl → Int → (Nat → Prop) → Prop) : Prop where
  lt : ∀ {w d L k G}, D w d L k G → ∀ g, G g → g < w.heap.size
  keep : ∀ {w w' d L k G}, D w d L k G → w.heap.size ≤ w'.heap.size → (∀ g, G g → w'.heap[g]? = w.heap[g]?) → D w' d L k G
  new_ : ∀ (k : Int) (w : World), Calls Try.prog 11 #[.int .i64 k] w fun e w' => ∃ d G, e = .returned (.pointer (some ⟨d, 0, none⟩)) ∧ D w' d [] k G ∧ Below w.heap.size w w' ∧ ∀ g, G g → w.heap.size ≤ g
  add_ : ∀ {w d L k G} (v : Vl), D w d L k G → Dis L k → (∀ x ∈ L, Okv x) → Okv v → Calls Try.prog 12 #[.pointer (some ⟨d, 0, none⟩), ag v] w fun e w' => e = .returned (.tuple #[.int .i64 (add L k v).2.1, .int .i64 (add L k v).2.2]) ∧ Wd.Mv G w w' ∧ ∃ G', D w' d (add L k v).1 k G' ∧ ∀ g, G' g → Wd.Gr G w w' g
  find_ : ∀ {w d L k G} (v : Vl), D w d L k G → Dis L k → (∀ x ∈ L, Okv x) → Okv v → Calls Try.prog 15 #[.pointer (some ⟨d, 0, none⟩), ag v] w fun e w' => e = .returned (.tuple #[.int .i64 (if v ∈ L then fnd L v else 0), .bool (decide (v ∈ L))]) ∧ Below w.heap.size w w'
  at_ : ∀ {w d L k G} (i : Int), D w d L k G → Dis L k → (∀ x ∈ L, Okv x) → Calls Try.prog 17 #[.pointer (some ⟨d, 0, none⟩), .int .i64 i] w fun e w' => e = .returned (.tuple #[ag (if 0 ≤ i ∧ i < L.length then L.getD i.toNat default else null), .bool (decide (0 ≤ i ∧ i < L.length))]) ∧ Below w.heap.size w w'
  len_ : ∀ {w d L k G}, D w d L k G → Dis L k → Calls Try.prog 14 #[.pointer (some ⟨d, 0, none⟩)] w fun e w' => e = .returned (.int .i64 (L.length : Int)) ∧ Below w.heap.size w w'
  sorted_ : ∀ {w d L k G}, D w d L k G → Dis L k → (∀ x ∈ L, Okv x) → Calls Try.prog 18 #[.pointer (some ⟨d, 0, none⟩)] w (OutS w (srt L) (tos L))
variable {D : World → Nat → List Vl → Int → (Nat → Prop) → Prop}
theorem Ifc.below (I : Ifc D) {w w' : World} {d : Nat} {L : List Vl} {k : Int} {G : Nat → Prop} (h : D w d L k G) (hb : Below w.heap.size w w') : D w' d L k G :=
  I.keep h hb.size fun g hg => hb.block g (I.lt h g hg)
set_option maxHeartbeats 4000000 in
/-- The chapter's example. -/
theorem awake_any (I : Ifc D) (w : World) : Calls Try.prog 9 #[] w fun e w' => e = .returned (.bool true) ∧ Below w.heap.size w w' := by
  have ok7 : Okv ⟨1, 7, ⟨#[]⟩, false⟩ := ⟨⟨by decide, by decide⟩, by unfold maxLen; decide⟩
  have ok3 : Okv ⟨1, 3, ⟨#[]⟩, false⟩ := ⟨⟨by decide, by decide⟩, by unfold maxLen; decide⟩
  have may7 : May ⟨1, 7, ⟨#[]⟩, false⟩ := .inr (.inl ⟨rfl, rfl, rfl⟩)
  have may3 : May ⟨1, 3, ⟨#[]⟩, false⟩ := .inr (.inl ⟨rfl, rfl, rfl⟩)
  have a1 : add [] 9 ⟨1, 7, ⟨#[]⟩, false⟩ = ([⟨1, 7, ⟨#[]⟩, false⟩], 0, 0) := add_new may7 (by simp) (by decide)
  have a2 : add [⟨1, 7, ⟨#[]⟩, false⟩] 9 ⟨1, 3, ⟨#[]⟩, false⟩ = ([⟨1, 7, ⟨#[]⟩, false⟩, ⟨1, 3, ⟨#[]⟩, false⟩], 1, 0) := add_new may3 (by simp) (by decide)
  have a3 : add [⟨1, 7, ⟨#[]⟩, false⟩, ⟨1, 3, ⟨#[]⟩, false⟩] 9 ⟨1, 7, ⟨#[]⟩, false⟩ = ([⟨1, 7, ⟨#[]⟩, false⟩, ⟨1, 3, ⟨#[]⟩, false⟩], 0, 0) := add_old may7 (by simp)
  have s1 : srt [⟨1, 7, ⟨#[]⟩, false⟩, ⟨1, 3, ⟨#[]⟩, false⟩] = [⟨1, 3, ⟨#[]⟩, false⟩, ⟨1, 7, ⟨#[]⟩, false⟩] := by decide +kernel
  have t1 : tos [⟨1, 7, ⟨#[]⟩, false⟩, ⟨1, 3, ⟨#[]⟩, false⟩] = [1, 0] := by decide +kernel
  have d0 : Dis [] 9 := dis_nil 9
  have d1 := dis_add d0 ⟨1, 7, ⟨#[]⟩, false⟩
  rw [a1] at d1
  have d2 := dis_add d1 ⟨1, 3, ⟨#[]⟩, false⟩
  rw [a2] at d2
  have o1 : ∀ x ∈ [(⟨1, 7, ⟨#[]⟩, false⟩ : Vl)], Okv x := by intro x hx; rw [List.mem_singleton.1 hx]; exact ok7
  have o2 : ∀ x ∈ [(⟨1, 7, ⟨#[]⟩, false⟩ : Vl), ⟨1, 3, ⟨#[]⟩, false⟩], Okv x := by
    intro x hx
    rcases List.mem_cons.1 hx with q | q
    · rw [q]; exact ok7
    · rw [List.mem_singleton.1 q]; exact ok3
  have C1 := Lib.hid fun w d G (h : D w d [] 9 G) => by have := I.add_ ⟨1, 7, ⟨#[]⟩, false⟩ h d0 (by simp) ok7; rw [a1] at this; exact this
  have C2 := Lib.hid fun w d G (h : D w d [⟨1, 7, ⟨#[]⟩, false⟩] 9 G) => by have := I.add_ ⟨1, 3, ⟨#[]⟩, false⟩ h d1 o1 ok3; rw [a2] at this; exact this
  have C3 := Lib.hid fun w d G (h : D w d [⟨1, 7, ⟨#[]⟩, false⟩, ⟨1, 3, ⟨#[]⟩, false⟩] 9 G) => by have := I.add_ ⟨1, 7, ⟨#[]⟩, false⟩ h d2 o2 ok7; rw [a3] at this; exact this
  have C4 := Lib.hid fun w d G (h : D w d [⟨1, 7, ⟨#[]⟩, false⟩, ⟨1, 3, ⟨#[]⟩, false⟩] 9 G) => by have := I.sorted_ h d2 o2; rw [s1, t1] at this; exact this
  clear ok7 ok3 may7 may3 a1 a2 a3 s1 t1 d0 d1 d2 o1 o2
  unfold ag at C1 C2 C3
  simp only [] at C1 C2 C3
  go_enter Try.func9, Try.ntmps9
  go_wp2_with fail
  refine (I.new_ 9 w).mono ?_
  rintro e w1 ⟨d, G1, rfl, hD1, hB1, hG1⟩
  go_wp2_with fail
  refine (C1.out w1 d G1 hD1).mono ?_
  rintro e w2 ⟨rfl, hM2, G2, hD2, hG2⟩
  have hG2' := fun g hg => Wd.Gr.ge hG1 hB1.size g (hG2 g hg)
  have hB2 : Below w.heap.size w w2 := hB1.trans (hM2.below hG1 hB1.size)
  go_wp2_with fail
  refine (C2.out w2 d G2 hD2).mono ?_
  rintro e w3 ⟨rfl, hM3, G3, hD3, hG3⟩
  have hG3' := fun g hg => Wd.Gr.ge hG2' hB2.size g (hG3 g hg)
  have hB3 : Below w.heap.size w w3 := hB2.trans (hM3.below hG2' hB2.size)
  go_wp2_with fail
  refine (C3.out w3 d G3 hD3).mono ?_
  rintro e w4 ⟨rfl, hM4, G4, hD4, hG4⟩
  have hB4 : Below w.heap.size w w4 := hB3.trans (hM4.below hG3' hB3.size)
  go_wp2_with fail
  refine (C4.out w4 d G4 hD4).mono ?_
  rintro e w5 ⟨A, n, c, B, m, k, rfl, hV, hT, hB5⟩
  have hb5 := hB4.trans (hB5.mono hB4.size)
  obtain rfl : n = 2 := hV.len
  have hcap := hV.cap
  go_wp2_with fail
  refine (Nc.ints_yes B _ m 2 k 2 [1, 0] [1, 0] _ (hT.below ((Below.refl _ _).alloc (Nat.le_refl _) _)) (Wd.Sl.lit w5 .i64 [1, 0] 3 _ 2 rfl rfl (by decide)) rfl).mono ?_
  rintro e w6 ⟨rfl, hB6⟩
  have hb56 : Below w5.heap.size w5 w6 := ((Below.refl _ w5).alloc (Nat.le_refl _) _).trans (hB6.mono (by simp))
  have hb6 := hb5.trans (hb56.mono hb5.size)
  obtain ⟨b, o, rfl, hbB, c0, c1, c2, c3, -⟩ := (hV.below hb56).cells (j := 0) (by decide) rfl
  simp only [Nat.zero_mul, Nat.add_zero] at c0 c1 c2 c3
  replace c1 : w6.cell? ⟨b, o + 1, none⟩ = some (.int .i64 3) := c1
  clear c0 c2 c3 hV hT hM2 hM3 hM4 hB1 hB2 hB3 hB4 hB5 hD1 hD2 hD3 hD4 hG1 hG2 hG3 hG4 hG2' hG3' C1 C2 C3 C4 I
  go_wp2_with fail
  go_ret
  exact ⟨rfl, hb6⟩
end Dx
end Go.Proofs.Ytiokajaadmfohaa
