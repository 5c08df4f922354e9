/- What Create of the reference's disk does. -/
import Derived.Test.YthangnhccbnfbaaDkRefC
namespace Go.Proofs.Ythangnhccbnfbaa
open Go.RowKit Go.Maps
namespace Dk
theorem less_before : ∀ x y : List UInt8, Op.bytesLess x y = bytesBefore x y
  | [], [] => by simp [Op.bytesLess, bytesBefore]
  | [], _ :: _ => by simp [Op.bytesLess, bytesBefore]
  | _ :: _, [] => by simp [Op.bytesLess, bytesBefore]
  | a :: x, b :: y => by
    rw [Op.bytesLess, bytesBefore, less_before x y]
theorem less_bef (s t : ByteArray) : Op.bytesLess s.toList t.toList = bef s t := by
  rw [ByteArray.toList_eq, ByteArray.toList_eq, less_before]
  rfl
theorem ins_none {α : Type} {nm : α → ByteArray} {f : α} : ∀ {M : List α} (R : List α), (∀ x ∈ M, bef (nm f) (nm x) = false) → ins nm f (M ++ R) = M ++ ins nm f R
  | [], _, _ => rfl
  | x :: M, R, h => by
    rw [List.cons_append, ins, h x (by simp)]
    simp only [Bool.false_eq_true, if_false, List.cons_append]
    rw [ins_none R fun y hy => h y (by simp [hy])]
theorem ins_some {α : Type} {nm : α → ByteArray} {f : α} : ∀ {M : List α} (R : List α), (∃ x ∈ M, bef (nm f) (nm x) = true) → ins nm f (M ++ R) = ins nm f M ++ R
  | [], _, h => by obtain ⟨x, hx, _⟩ := h; simp at hx
  | x :: M, R, h => by
    rw [List.cons_append]
    unfold ins
    split
    · rfl
    · rename_i hb
      rw [List.cons_append, ins_some R (by
        obtain ⟨y, hy, e⟩ := h
        rcases List.mem_cons.1 hy with rfl | hy
        · exact absurd e hb
        · exact ⟨y, hy, e⟩)]
/-- The new file. -/
def nf (s : ByteArray) : Fil := ⟨s, [], 0, 0, .slice none 0 0⟩
/-- What the loop of Create has built of the first k files. -/
structure Cr (s : ByteArray) (L : List Fil) (k : Nat) (dn : Bool) (M : List Fil) : Prop where
  no : dn = false → M = L.take k ∧ ∀ x ∈ L.take k, bef s x.name = false
  yes : dn = true → M = ins Fil.name (nf s) (L.take k) ∧ ∃ x ∈ L.take k, bef s x.name = true
theorem Cr.len {s : ByteArray} {L : List Fil} {k : Nat} {dn : Bool} {M : List Fil} (h : Cr s L k dn M) : M.length ≤ k + 1 := by
  cases dn
  · rw [(h.no rfl).1, List.length_take]; omega
  · rw [(h.yes rfl).1, length_ins, List.length_take]; omega
theorem Cr.stay {s : ByteArray} {L : List Fil} {k : Nat} {dn : Bool} {M : List Fil} (h : Cr s L k dn M) (hk : k < L.length) (hb : dn = false → bef s L[k].name = false) : Cr s L (k + 1) dn (M ++ [L[k]]) := by
  have e := List.take_succ_eq_append_getElem hk
  refine ⟨fun hd => ?_, fun hd => ?_⟩
  · obtain ⟨h1, h2⟩ := h.no hd
    refine ⟨by rw [e, h1], fun x hx => ?_⟩
    rw [e, List.mem_append] at hx
    rcases hx with hx | hx
    · exact h2 x hx
    · simp only [List.mem_singleton] at hx
      rw [hx]
      exact hb hd
  · obtain ⟨h1, h2⟩ := h.yes hd
    refine ⟨by rw [e, ins_some [L[k]] (by simpa [nf] using h2), h1], ?_⟩
    obtain ⟨x, hx, q⟩ := h2
    exact ⟨x, by rw [e]; exact List.mem_append_left _ hx, q⟩
theorem Cr.put {s : ByteArray} {L : List Fil} {k : Nat} {M : List Fil} (h : Cr s L k false M) (hk : k < L.length) (hb : bef s L[k].name = true) : Cr s L (k + 1) true ((M ++ [nf s]) ++ [L[k]]) := by
  have e := List.take_succ_eq_append_getElem hk
  obtain ⟨h1, h2⟩ := h.no rfl
  refine ⟨fun hd => by (cases hd), fun _ => ⟨?_, L[k], by rw [e]; exact List.mem_append_right _ (by simp), hb⟩⟩
  rw [e, ins_none [L[k]] (by simpa [nf] using h2), h1]
  have : ins Fil.name (nf s) [L[k]] = [nf s, L[k]] := by
    unfold ins
    rw [if_pos (by simpa [nf] using hb)]
  rw [this]
  simp
theorem Cr.end_ {s : ByteArray} {L : List Fil} {k : Nat} {dn : Bool} {M : List Fil} (h : Cr s L k dn M) (hk : L.length ≤ k) : ins Fil.name (nf s) L = if dn then M else M ++ [nf s] := by
  have e : L.take k = L := List.take_of_length_le hk
  cases dn
  · obtain ⟨h1, h2⟩ := h.no rfl
    rw [e] at h1 h2
    have := ins_none (nm := Fil.name) (f := nf s) [] (M := L) (by simpa [nf] using h2)
    rw [List.append_nil] at this
    rw [this, h1]
    rfl
  · obtain ⟨h1, h2⟩ := h.yes rfl
    rw [e] at h1
    rw [h1]
    rfl
/-- The cells of one file that were just laid. -/
theorem one_cells (w : World) (f : Fil) (cs : Array Value) (hc : cs = (fl3 f).toArray) : ∀ ad, some (⟨w.heap.size, 0, none⟩ : Addr) = some ad → ∀ j u, (flat3 [f])[j]? = some u → (w.alloc (.cells cs 64)).cell? (ad.add j) = some u := by
  intro ad had j u hu
  cases had
  subst hc
  rw [Addr.add_lit, Nat.zero_add]
  have := (Wd.Bx.new w 64 (fl3 f).toArray).cell j
  rw [this]
  simpa [flat3] using hu
end Dk
end Go.Proofs.Ythangnhccbnfbaa
