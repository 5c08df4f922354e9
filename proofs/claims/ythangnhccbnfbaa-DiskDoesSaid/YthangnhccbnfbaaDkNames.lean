/- What names and List of package disk do: the names of the files in their order. -/
import Derived.Test.YthangnhccbnfbaaDkOps
import Derived.Test.YthangnhccbnfbaaDkSpec
import Derived.Test.YthangnhccbnfbaaDkLay
namespace Go.Proofs.Ythangnhccbnfbaa
open Go.RowKit Go.Maps Go.Sort Go.Shelf
namespace Dk
theorem sortsN (m : Nat) : AnyZ.SortsIn Try.prog Try.sorted47_ren Fence.wide m :=
  ⟨fun blk off cap ss W hH hblk hsz => callsIn_wide.2 (AnyM.slices_Sort_string Try.sort50 blk off cap ss W hH hblk hsz),
   fun p cap W => callsIn_wide.2 (AnyM.slices_Sort_string_none Try.sort50 p cap W)⟩

section
variable {w : World} {d m : Nat} {L : List Fil} {cap arm : Int} {dead : Bool} {G : Nat → Prop}
set_option maxHeartbeats 1000000 in
theorem names_any (h : Lay w d m L cap arm dead G) (hL : L.length ≤ 100000) :
    Calls Try.prog 44 #[pt d] w fun e w' => ∃ v, e = .returned v ∧ w'.ownsRow w.heap.size 9 1 v L.length (L.map fun f => .string f.name) ∧ Below w.heap.size w w' := by
  have hown := h.own
  have hup := h.up
  have hmax : Maps.size (Dm L) ≤ maxLen := by rw [size_Dm]; unfold maxLen; omega
  have hbytes : Maps.size (Dm L) * 16 ≤ 140737488355328 := by rw [size_Dm]; omega
  have c0 := h.box.cell 0
  simp at c0
  refine (callsIn_wide (n := 6)).1 ?_
  have hbl := hown.lt
  have hseq : SeqGives Fence.wide 2 Try.prog 51 #[.pointer (some ⟨w.heap.size, 0, none⟩)] encStr (fun ss => ss.Perm (strKeys (Dm L))) (Maps.size (Dm L)) (w.alloc (.cells #[.map (some m)] 56)) :=
    AnyZ.keys_gives (ρ := Try.keys48_ren) { Try.keys48 with } Fence.wide _ trivial rfl (by omega) w.heap.size m L.length (Dm L) _ (by simp) (by simp) (by
      obtain ⟨es, clock, hb, Ft, hs, hD⟩ := hown
      exact ⟨es, clock, (Below.heap_alloc _ _ m hbl).trans hb, Ft, hs, hD⟩)
  have cK : ∀ mb W, CallsIn Fence.wide 5 Try.prog 48 #[.map mb] W fun e w' => e = .returned (.func (.func 51) #[] #[.pointer (some ⟨W.heap.size, 0, none⟩)]) ∧ w' = W.alloc (.cells #[.map mb] 56) := fun mb W => AnyZ.keys_in Try.keys48 Fence.wide 5 trivial rfl mb W
  have cS := AnyZ.sorted_in Try.sorted47 Fence.wide 5 trivial trivial trivial trivial rfl (by omega) (sortsN _) (enters_of Try.func50 (by kernel_rfl) rfl) 51 #[.pointer (some ⟨w.heap.size, 0, none⟩)] trivial (enters_of Try.func51 (by kernel_rfl) rfl) _ _ hmax hbytes _ hseq
  change CallsIn _ _ Try.prog 47 _ _ _ at cS
  have hfK : Fence.wide.fn 48 := trivial
  have hfS : Fence.wide.fn 47 := trivial
  refine callsIn_of_wp Try.func44 rfl trivial ?_ rfl
  simp only [Try.ntmps44, List.size_toArray, List.length_cons, List.length_nil, Nat.reduceAdd, Nat.reduceSub, Array.replicate_succ, Array.replicate_zero, List.push_toArray, List.append_toArray, List.nil_append, List.cons_append]
  gi_wp2_with (first
    | (gi_at_call 48; refine (cK _ _).mono ?_; rintro e w' ⟨rfl, rfl⟩)
    | (gi_at_call 47; refine cS.mono ?_; rintro e w' ⟨v, ss, rfl, hS, hrow, hnil, hb⟩))
  go_ret
  have hlen : ss.length = L.length := by rw [hS.length_eq, keys_Dm]; simp
  refine ⟨v, rfl, ?_, ((Below.refl _ w).alloc (Nat.le_refl _) _).trans (hb.mono (by simp))⟩
  rw [hlen, names_sorted hup hS] at hrow
  exact ownsRow_base_a hrow (by simp)

theorem list_live (h : Lay w d m L cap arm false G) (hL : L.length ≤ 100000) :
    Calls Try.prog 25 #[pt d] w fun e w' => ∃ v, e = .returned v ∧ w'.ownsRow w.heap.size 9 1 v L.length (L.map fun f => .string f.name) ∧ Below w.heap.size w w' := by
  have hd := dead_any h
  have hN := names_any h hL
  go_enter Try.func25, Try.ntmps25
  go_wp2_with fail
  refine hd.mono ?_
  rintro e w' ⟨rfl, rfl⟩
  go_wp2_with fail
  refine hN.mono ?_
  rintro e w1 ⟨v, rfl, ho, hb⟩
  go_wp2_with fail
  go_ret
  exact ⟨v, rfl, ho, hb⟩
theorem list_dead (h : Lay w d m L cap arm true G) :
    Calls Try.prog 25 #[pt d] w fun e w' => e = .returned (.slice none 0 0) ∧ w' = w := by
  have hd := dead_any h
  go_enter Try.func25, Try.ntmps25
  go_wp2_with fail
  refine hd.mono ?_
  rintro e w' ⟨rfl, rfl⟩
  go_wp2_with fail
  go_ret
  exact ⟨rfl, rfl⟩
end
end Dk
end Go.Proofs.Ythangnhccbnfbaa
